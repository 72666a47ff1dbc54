/- What the reference's Parse does; WordParses' walk. -/
import Derived.Test.YtlndeghggdpmaaaU3
import Derived.Test.YtlndeghggdpmaaaV2
import Derived.Test.YtlndeghggdpmaaaV3
namespace Go.Proofs.Ytlndeghggdpmaaa
open Go.RowKit

set_option maxHeartbeats 1000000 in
theorem rparse_long (s : ByteArray) (h : 100000 < s.size) (w : World) :
    Calls Try.prog 27 #[.string s] w fun e w' => e = .returned (parV (0, 12)) ∧ Below w.heap.size w w' := by
  have h1 : (100000 : Int) < (s.size : Int) := by omega
  rw [parV_zero]
  clear h
  go_enter Try.func27, Try.ntmps27
  go_wp2
  refine bodyPost_ret (v := .tuple #[.agg #[.int .u64 0, .int .u64 0, .int .u64 0, .int .u64 0], .int .i64 12]) (by simp [results, Try.results27, go_sem]) rfl ⟨rfl, ?_⟩
  repeat (first | with_reducible exact Below.refl _ _ | with_reducible refine Below.setCell ?_ (by first | omega | (simp; omega) | simp) _ | with_reducible refine Below.alloc ?_ (by first | omega | (simp; omega) | simp) _)

set_option maxHeartbeats 16000000 in
set_option maxRecDepth 20000 in
theorem rparse_walk (s t : ByteArray) (b : Nat) (hx : Bool) (R : Nat × Nat) (h : ¬ 100000 < s.size) (ht : t.size ≤ 100000)
    (hb : (hx = true ∧ b = 16 ∧ t = s.extract 2 s.size ∧ 2 ≤ s.size ∧ ((s.extract 0 2).toList == [48, 120]) = true) ∨ (hx = false ∧ b = 10 ∧ t = s ∧ ¬ 2 ≤ s.size) ∨ (hx = false ∧ b = 10 ∧ t = s ∧ 2 ≤ s.size ∧ ((s.extract 0 2).toList == [48, 120]) = false))
    (hR : parseGo b t (t.size + 1) 0 0 false false = R) (w : World) :
    Calls Try.prog 27 #[.string s] w fun e w' => e = .returned (parV R) ∧ Below w.heap.size w w' := by
  have h1 : ¬ (100000 : Int) < (s.size : Int) := by omega
  have hbb : (hx = true ∧ b = 16) ∨ (hx = false ∧ b = 10) := by
    rcases hb with ⟨h1, h2, _⟩ | ⟨h1, h2, _⟩ | ⟨h1, h2, _⟩
    · exact Or.inl ⟨h1, h2⟩
    · exact Or.inr ⟨h1, h2⟩
    · exact Or.inr ⟨h1, h2⟩
  have VS := fun i d hi h w => value_some b hx t i d hbb ht hi h w
  have VN := fun i hi h w => value_none b hx t i hbb ht hi h w
  have IX := fun i hi w => index_at t i hi w
  have TM := fun num d hd hn w => refTimes_any num b d (by rcases hbb with ⟨_, h⟩ | ⟨_, h⟩ <;> omega) hd hn w
  have HVS : Hid (∀ (i d : Nat) (hi : _) (h : _) (w : World), _) := VS
  have HVN : Hid (∀ (i : Nat) (hi : _) (h : _) (w : World), _) := VN
  have HIX : Hid (∀ (i : Nat) (hi : _) (w : World), _) := IX
  have HTM : Hid (∀ (num d : Nat) (hd : _) (hn : _) (w : World), _) := TM
  have HR : Hid (parseGo b t (t.size + 1) 0 0 false false = R) := hR
  have HTS : Hid (t.size ≤ 100000) := ht
  clear h hR VS VN IX TM hbb ht
  rcases hb with ⟨rfl, rfl, et, hs2, hq⟩ | ⟨rfl, rfl, et, hs2⟩ | ⟨rfl, rfl, et, hs2, hq⟩
  · have i2 : (2 : Int) ≤ (s.size : Int) := by omega
    have et2 : s.extract 2 s.size = t := et.symm
    clear et
    go_enter Try.func27, Try.ntmps27
    go_wp2
    go_loopw [7, 8, 9, 10] (fun lv dv nv iv wr => ∃ (pos num f dg : Nat) (lg ln : Bool), lv = .bool lg ∧ dv = .int .i64 (dg : Int) ∧ nv = .bool ln ∧ iv = .int .i64 (pos : Int) ∧ dg ≤ pos ∧ pos ≤ 100100 ∧ num < 115792089237316195423570985008687907853269984665640564039457584007913129639936 ∧ 1 ≤ f ∧ t.size + 1 ≤ f + pos ∧ Hid (parseGo 16 t f pos num lg (decide (dg ≠ 0) && !ln) = R) ∧ Below w.heap.size w wr ∧ Blk wr 24 w.heap.size (fun _ => 0) ∧ Blk wr 24 (w.heap.size + 1) (fun i => limb i num)) (fun _ _ _ iv _ => t.size - (intOf iv).toNat)
    case atStart =>
      refine ⟨0, 0, t.size + 1, 0, false, false, rfl, rfl, rfl, rfl, by omega, by omega, by decide, by omega, by omega, HR, ?_, ?_, ?_⟩
      · repeat (first | with_reducible exact Below.refl _ _ | with_reducible refine Below.alloc ?_ (by first | omega | (simp; omega) | simp) _)
      · exact (Blk.newAt _ _ _ (fun _ => 0) rfl).alloc _
      · exact (Blk.newAt _ _ _ (fun _ => 0) (by simp)).congr (fun i _ => limb_zero i)
    case round =>
      obtain ⟨pos, num, f, dg, lg, ln, rfl, rfl, rfl, rfl, hdg, hpm, hn, hf1, hf2, HG, hbr, bR, bN⟩ := hrel
      obtain ⟨g, rfl⟩ : ∃ g, f = g + 1 := ⟨f - 1, by omega⟩
      have hts := HTS.out
      by_cases hp : pos < t.size
      · have hpi : (pos : Int) < (t.size : Int) := by omega
        have IX := HIX.out pos hp
        have hw := decode_width t pos hp
        have hlo := decode_low t pos hp
        have hhi := fun hc => (decode_wide t pos hp hc)
        have G1 := parseGo_line 16 t g pos num lg hp; have G2 := fun af h1 => parseGo_none 16 t g pos num lg af hp h1; have G3 := fun d af => parseGo_some 16 t g pos num d lg af hp
        have VS := fun d => HVS.out pos d hp; have VN := HVN.out pos hp
        by_cases hc95 : byN t pos = 95
        · have hd := hlo (by omega)
          rw [hd] at G1
          have G1a := G1 hc95
          have G2a := fun af h1 => G2 af h1 (by rw [hd]; show digV _ (byN t pos) = none; rw [hc95]; exact digV_95 _)
          rw [hc95] at IX
          by_cases haf : dg ≠ 0 ∧ ln = false
          · obtain ⟨hd0, rfl⟩ := haf
            have HG2 : Hid (parseGo 16 t g (pos + 1) num lg (decide (dg ≠ 0) && !true) = R) := by
              show _ = _
              have h := HG.out
              rw [show (decide (dg ≠ 0) && !false) = true from by simp [hd0], G1a] at h
              rw [show (decide (dg ≠ 0) && !true) = false from by simp]
              exact h
            have hdi : (((dg : Nat) : Int) == 0) = false := by rw [beq_eq_false_iff_ne]; omega
            clear G1 G1a G2 G2a G3 HG VS VN hlo hhi hd hc95
            go_wp2
            go_roundw
            case measure => simp [intOf]; omega
            case rel => exact ⟨pos + 1, num, g, dg, lg, true, rfl, rfl, rfl, by go_num, by omega, by omega, hn, by omega, by omega, HG2, hbr, bR, bN⟩
          · have haf2 : (decide (dg ≠ 0) && !ln) = false := by
              rw [Bool.eq_false_iff]; intro hh; rw [Bool.and_eq_true] at hh
              exact haf ⟨by simpa using hh.1, by simpa using hh.2⟩
            have HE : Hid (R = (0, 11)) := by
              show _ = _
              rw [← HG.out, haf2]
              exact G2a false (by rintro ⟨_, h⟩; cases h)
            have hcs : (((dg : Nat) : Int) == 0) = true ∨ ((((dg : Nat) : Int) == 0) = false ∧ ln = true) := by
              by_cases h0 : dg = 0
              · left; rw [h0]; rfl
              · right; refine ⟨by rw [beq_eq_false_iff_ne]; omega, ?_⟩
                cases ln with | true => rfl | false => exact absurd ⟨h0, rfl⟩ haf
            clear G1 G1a G2 G2a G3 HG VS VN hlo hhi hd hc95 haf haf2
            have cr := bR.cell; have fr := bR.frozen
            rcases hcs with hcs | ⟨hcs, rfl⟩
            all_goals
              go_wp2
              refine bodyPost_ret (v := .tuple #[.agg #[.int .u64 0, .int .u64 0, .int .u64 0, .int .u64 0], .int .i64 11]) (by simp [results, Try.results27, go_sem, cr]) rfl ⟨by rw [HE.out, parV_zero]; rfl, ?_⟩
              repeat (first | with_reducible exact hbr | with_reducible refine Below.setCell ?_ (by first | omega | (simp; omega) | simp) _)
        · have hq95 : (((byN t pos : Nat) : Int) == 95) = false := by rw [beq_eq_false_iff_ne]; omega
          have hr95 : (Utf8.decode t pos).1 ≠ 95 := by
            by_cases hc : byN t pos < 128
            · rw [hlo hc]; exact hc95
            · rcases hhi (by omega) with ⟨_, h⟩ | ⟨_, h, _⟩
              · rw [h]; dsimp only; omega
              · omega
          obtain ⟨C, eC⟩ : ∃ C : Int, C = ((byN t pos : Nat) : Int) := ⟨_, rfl⟩
          rw [← eC] at IX hq95
          cases hd : digV 16 (Utf8.decode t pos).1 with
          | none =>
            have HE : Hid (R = (0, 11)) := by
              show _ = _
              rw [← HG.out]
              exact G2 _ (fun h => hr95 h.1) hd
            have VNa := VN hd
            clear G1 G2 G3 HG VS VN hlo hhi hd hc95 eC hr95
            go_wp2_with fail
            refine (VNa _).mono ?_
            rintro e w3 ⟨rfl, rfl⟩
            have cr := bR.cell; have fr := bR.frozen
            go_wp2
            refine bodyPost_ret (v := .tuple #[.agg #[.int .u64 0, .int .u64 0, .int .u64 0, .int .u64 0], .int .i64 11]) (by simp [results, Try.results27, go_sem, cr]) rfl ⟨by rw [HE.out, parV_zero]; rfl, ?_⟩
            repeat (first | with_reducible exact hbr | with_reducible refine Below.setCell ?_ (by first | omega | (simp; omega) | simp) _)
          | some d =>
            have hdl := digV_lt hd
            have VSa := VS d hd
            have G := G3 d (decide (dg ≠ 0) && !ln) hd
            have hwu : (Utf8.decode t pos).2 ≤ 4 := by
              by_cases hc : byN t pos < 128
              · rw [hlo hc]; dsimp only; omega
              · rcases hhi (by omega) with ⟨_, h⟩ | ⟨_, h, hh⟩
                · rw [h]; dsimp only; omega
                · exfalso; unfold digV at hd; rw [if_neg (by omega), if_neg hh, if_neg (by omega), if_neg (by omega)] at hd; cases hd
            obtain ⟨n, en⟩ : ∃ n, n = (Utf8.decode t pos).2 := ⟨_, rfl⟩
            rw [← en] at G VSa hw hwu
            have TM := HTM.out num d (by omega) hn
            have hsn := stepN_lt 16 num d
            have HG2 : Hid (parseGo 16 t g (pos + n) (stepN 16 num d) (lg || stepL 16 num d) (decide (dg + 1 ≠ 0) && !false) = R) := by
              show _ = _
              rw [show (decide (dg + 1 ≠ 0) && !false) = true from by simp, ← G]
              exact HG.out
            obtain ⟨sn, esn⟩ : ∃ sn, sn = stepN 16 num d := ⟨_, rfl⟩
            obtain ⟨sl, esl⟩ : ∃ sl, sl = stepL 16 num d := ⟨_, rfl⟩
            rw [← esn] at HG2 TM hsn
            rw [← esl] at HG2 TM
            have HSN : Hid (sn < 115792089237316195423570985008687907853269984665640564039457584007913129639936) := hsn
            have d0 : ¬ ((d : Int) < 0) := by omega
            have dw : IntKind.u64.wrap (d : Int) = (d : Int) := by rw [IntKind.wrap_u64]; omega
            clear G G1 G2 G3 HG VS VN hlo hhi hd hc95 eC hr95 en esn esl hsn
            go_wp2_with fail
            refine (VSa _).mono ?_
            rintro e w3 ⟨rfl, rfl⟩
            have cN := bN.cell
            go_wp2_with fail
            refine (TM _).mono ?_
            rintro e w4 ⟨rfl, hb4⟩
            have bR4 := bR.belowAll hb4; have bN4 := bN.belowAll hb4
            have hbw4 := bStep hbr hb4
            clear bR bN hbr hb4 cN
            obtain ⟨N13, e13⟩ : ∃ N13, N13 = w4.heap.size := ⟨_, rfl⟩
            obtain ⟨w5, hw5⟩ : ∃ w5 : World, w5 = w4.alloc (.cells #[.int .u64 ((limb 0 (sn) : Nat) : Int), .int .u64 ((limb 1 (sn) : Nat) : Int), .int .u64 ((limb 2 (sn) : Nat) : Int), .int .u64 ((limb 3 (sn) : Nat) : Int)] 24) := ⟨_, rfl⟩
            have bR5 : Blk w5 24 w.heap.size (fun _ => 0) := by rw [hw5]; exact bR4.alloc _
            have bN5 : Blk w5 24 (w.heap.size + 1) (fun i => limb i num) := by rw [hw5]; exact bN4.alloc _
            have bS5 : Blk w5 24 N13 (fun i => limb i sn) := by rw [hw5]; exact Blk.newAt _ _ _ (fun i => limb i sn) e13
            have hbw5 : Below w.heap.size w w5 := by rw [hw5]; exact bAlloc hbw4 _
            have l13 : w.heap.size + 1 < N13 := by have := bN4.lt; omega
            go_upto_region 26 with fail
            rw [← hw5, ← e13]
            clear hw5 e13 bR4 bN4 hbw4
            have cS := bS5.cell; have cN := bN5.cell; have fN := bN5.frozen
            go_upto_region 27 with fail
            obtain ⟨w6, hw6⟩ : ∃ w6 : World, w6 = (((w5.setCell ⟨w.heap.size + 1, 0, none⟩ (.int .u64 ((limb 0 sn : Nat) : Int))).setCell ⟨w.heap.size + 1, 1, none⟩ (.int .u64 ((limb 1 sn : Nat) : Int))).setCell ⟨w.heap.size + 1, 2, none⟩ (.int .u64 ((limb 2 sn : Nat) : Int))).setCell ⟨w.heap.size + 1, 3, none⟩ (.int .u64 ((limb 3 sn : Nat) : Int)) := ⟨_, rfl⟩
            have bN6 : Blk w6 24 (w.heap.size + 1) (fun i => limb i sn) := by rw [hw6]; exact bN5.set4 (fun i => limb i sn)
            have bR6 : Blk w6 24 w.heap.size (fun _ => 0) := by rw [hw6]; exact bR5.other4 (by omega) _ _ _ _
            have hbw6 : Below w.heap.size w w6 := by rw [hw6]; exact bSet4 hbw5 (by omega) _ _ _ _
            rw [← hw6]
            clear hw6 bN5 bR5 bS5 hbw5 cS cN fN
            cases lg
            all_goals
              go_wp2
              go_roundw
              case measure => simp [intOf]; omega
              case rel => exact ⟨pos + n, sn, g, dg + 1, _, false, rfl, by go_num, rfl, by go_num, by omega, by omega, HSN.out, by omega, by omega, HG2, hbw6, bR6, bN6⟩
      · have hpi : ¬ (pos : Int) < (t.size : Int) := by omega
        have G := fun af => parseGo_end 16 t g pos num lg af hp
        have cr := bR.cell; have fr := bR.frozen; have cN := bN.cell
        by_cases hd0 : dg = 0
        · have HE : Hid (R = (0, 11)) := by show _ = _; rw [← HG.out, G, show (decide (dg ≠ 0) && !ln) = false from by simp [hd0]]; rfl
          have hdi : (((dg : Nat) : Int) == 0) = true := by rw [hd0]; rfl
          clear G HG hd0
          go_wp2
          refine bodyPost_ret (v := .tuple #[.agg #[.int .u64 0, .int .u64 0, .int .u64 0, .int .u64 0], .int .i64 11]) (by simp [results, Try.results27, go_sem, cr]) rfl ⟨by rw [HE.out, parV_zero]; rfl, ?_⟩
          repeat (first | with_reducible exact hbr | with_reducible refine Below.setCell ?_ (by first | omega | (simp; omega) | simp) _)
        · have hdi : (((dg : Nat) : Int) == 0) = false := by rw [beq_eq_false_iff_ne]; omega
          cases ln
          · have hE := HG.out
            rw [G, show (decide (dg ≠ 0) && !false) = true from by simp [hd0]] at hE
            cases lg
            · have HE : Hid (R = (num, 0)) := by show _ = _; rw [← hE]; rfl
              clear G HG hd0 hE
              go_wp2
              refine bodyPost_ret (v := .tuple #[.agg #[.int .u64 ((limb 0 (num) : Nat) : Int), .int .u64 ((limb 1 (num) : Nat) : Int), .int .u64 ((limb 2 (num) : Nat) : Int), .int .u64 ((limb 3 (num) : Nat) : Int)], .int .i64 0]) (by simp [results, Try.results27, go_sem, cr]) rfl ⟨by rw [HE.out]; rfl, ?_⟩
              repeat (first | with_reducible exact hbr | with_reducible refine Below.setCell ?_ (by first | omega | (simp; omega) | simp) _)
            · have HE : Hid (R = (0, 12)) := by show _ = _; rw [← hE]; rfl
              clear G HG hd0 hE
              go_wp2
              refine bodyPost_ret (v := .tuple #[.agg #[.int .u64 0, .int .u64 0, .int .u64 0, .int .u64 0], .int .i64 12]) (by simp [results, Try.results27, go_sem, cr]) rfl ⟨by rw [HE.out, parV_zero]; rfl, ?_⟩
              repeat (first | with_reducible exact hbr | with_reducible refine Below.setCell ?_ (by first | omega | (simp; omega) | simp) _)
          · have HE : Hid (R = (0, 11)) := by show _ = _; rw [← HG.out, G, show (decide (dg ≠ 0) && !true) = false from by simp]; rfl
            clear G HG hd0
            go_wp2
            refine bodyPost_ret (v := .tuple #[.agg #[.int .u64 0, .int .u64 0, .int .u64 0, .int .u64 0], .int .i64 11]) (by simp [results, Try.results27, go_sem, cr]) rfl ⟨by rw [HE.out, parV_zero]; rfl, ?_⟩
            repeat (first | with_reducible exact hbr | with_reducible refine Below.setCell ?_ (by first | omega | (simp; omega) | simp) _)
  · have i2 : ¬ (2 : Int) ≤ (s.size : Int) := by omega
    subst et
    go_enter Try.func27, Try.ntmps27
    go_wp2
    go_loopw [7, 8, 9, 10] (fun lv dv nv iv wr => ∃ (pos num f dg : Nat) (lg ln : Bool), lv = .bool lg ∧ dv = .int .i64 (dg : Int) ∧ nv = .bool ln ∧ iv = .int .i64 (pos : Int) ∧ dg ≤ pos ∧ pos ≤ 100100 ∧ num < 115792089237316195423570985008687907853269984665640564039457584007913129639936 ∧ 1 ≤ f ∧ t.size + 1 ≤ f + pos ∧ Hid (parseGo 10 t f pos num lg (decide (dg ≠ 0) && !ln) = R) ∧ Below w.heap.size w wr ∧ Blk wr 24 w.heap.size (fun _ => 0) ∧ Blk wr 24 (w.heap.size + 1) (fun i => limb i num)) (fun _ _ _ iv _ => t.size - (intOf iv).toNat)
    case atStart =>
      refine ⟨0, 0, t.size + 1, 0, false, false, rfl, rfl, rfl, rfl, by omega, by omega, by decide, by omega, by omega, HR, ?_, ?_, ?_⟩
      · repeat (first | with_reducible exact Below.refl _ _ | with_reducible refine Below.alloc ?_ (by first | omega | (simp; omega) | simp) _)
      · exact (Blk.newAt _ _ _ (fun _ => 0) rfl).alloc _
      · exact (Blk.newAt _ _ _ (fun _ => 0) (by simp)).congr (fun i _ => limb_zero i)
    case round =>
      obtain ⟨pos, num, f, dg, lg, ln, rfl, rfl, rfl, rfl, hdg, hpm, hn, hf1, hf2, HG, hbr, bR, bN⟩ := hrel
      obtain ⟨g, rfl⟩ : ∃ g, f = g + 1 := ⟨f - 1, by omega⟩
      have hts := HTS.out
      by_cases hp : pos < t.size
      · have hpi : (pos : Int) < (t.size : Int) := by omega
        have IX := HIX.out pos hp
        have hw := decode_width t pos hp
        have hlo := decode_low t pos hp
        have hhi := fun hc => (decode_wide t pos hp hc)
        have G1 := parseGo_line 10 t g pos num lg hp; have G2 := fun af h1 => parseGo_none 10 t g pos num lg af hp h1; have G3 := fun d af => parseGo_some 10 t g pos num d lg af hp
        have VS := fun d => HVS.out pos d hp; have VN := HVN.out pos hp
        by_cases hc95 : byN t pos = 95
        · have hd := hlo (by omega)
          rw [hd] at G1
          have G1a := G1 hc95
          have G2a := fun af h1 => G2 af h1 (by rw [hd]; show digV _ (byN t pos) = none; rw [hc95]; exact digV_95 _)
          rw [hc95] at IX
          by_cases haf : dg ≠ 0 ∧ ln = false
          · obtain ⟨hd0, rfl⟩ := haf
            have HG2 : Hid (parseGo 10 t g (pos + 1) num lg (decide (dg ≠ 0) && !true) = R) := by
              show _ = _
              have h := HG.out
              rw [show (decide (dg ≠ 0) && !false) = true from by simp [hd0], G1a] at h
              rw [show (decide (dg ≠ 0) && !true) = false from by simp]
              exact h
            have hdi : (((dg : Nat) : Int) == 0) = false := by rw [beq_eq_false_iff_ne]; omega
            clear G1 G1a G2 G2a G3 HG VS VN hlo hhi hd hc95
            go_wp2
            go_roundw
            case measure => simp [intOf]; omega
            case rel => exact ⟨pos + 1, num, g, dg, lg, true, rfl, rfl, rfl, by go_num, by omega, by omega, hn, by omega, by omega, HG2, hbr, bR, bN⟩
          · have haf2 : (decide (dg ≠ 0) && !ln) = false := by
              rw [Bool.eq_false_iff]; intro hh; rw [Bool.and_eq_true] at hh
              exact haf ⟨by simpa using hh.1, by simpa using hh.2⟩
            have HE : Hid (R = (0, 11)) := by
              show _ = _
              rw [← HG.out, haf2]
              exact G2a false (by rintro ⟨_, h⟩; cases h)
            have hcs : (((dg : Nat) : Int) == 0) = true ∨ ((((dg : Nat) : Int) == 0) = false ∧ ln = true) := by
              by_cases h0 : dg = 0
              · left; rw [h0]; rfl
              · right; refine ⟨by rw [beq_eq_false_iff_ne]; omega, ?_⟩
                cases ln with | true => rfl | false => exact absurd ⟨h0, rfl⟩ haf
            clear G1 G1a G2 G2a G3 HG VS VN hlo hhi hd hc95 haf haf2
            have cr := bR.cell; have fr := bR.frozen
            rcases hcs with hcs | ⟨hcs, rfl⟩
            all_goals
              go_wp2
              refine bodyPost_ret (v := .tuple #[.agg #[.int .u64 0, .int .u64 0, .int .u64 0, .int .u64 0], .int .i64 11]) (by simp [results, Try.results27, go_sem, cr]) rfl ⟨by rw [HE.out, parV_zero]; rfl, ?_⟩
              repeat (first | with_reducible exact hbr | with_reducible refine Below.setCell ?_ (by first | omega | (simp; omega) | simp) _)
        · have hq95 : (((byN t pos : Nat) : Int) == 95) = false := by rw [beq_eq_false_iff_ne]; omega
          have hr95 : (Utf8.decode t pos).1 ≠ 95 := by
            by_cases hc : byN t pos < 128
            · rw [hlo hc]; exact hc95
            · rcases hhi (by omega) with ⟨_, h⟩ | ⟨_, h, _⟩
              · rw [h]; dsimp only; omega
              · omega
          obtain ⟨C, eC⟩ : ∃ C : Int, C = ((byN t pos : Nat) : Int) := ⟨_, rfl⟩
          rw [← eC] at IX hq95
          cases hd : digV 10 (Utf8.decode t pos).1 with
          | none =>
            have HE : Hid (R = (0, 11)) := by
              show _ = _
              rw [← HG.out]
              exact G2 _ (fun h => hr95 h.1) hd
            have VNa := VN hd
            clear G1 G2 G3 HG VS VN hlo hhi hd hc95 eC hr95
            go_wp2_with fail
            refine (VNa _).mono ?_
            rintro e w3 ⟨rfl, rfl⟩
            have cr := bR.cell; have fr := bR.frozen
            go_wp2
            refine bodyPost_ret (v := .tuple #[.agg #[.int .u64 0, .int .u64 0, .int .u64 0, .int .u64 0], .int .i64 11]) (by simp [results, Try.results27, go_sem, cr]) rfl ⟨by rw [HE.out, parV_zero]; rfl, ?_⟩
            repeat (first | with_reducible exact hbr | with_reducible refine Below.setCell ?_ (by first | omega | (simp; omega) | simp) _)
          | some d =>
            have hdl := digV_lt hd
            have VSa := VS d hd
            have G := G3 d (decide (dg ≠ 0) && !ln) hd
            have hwu : (Utf8.decode t pos).2 ≤ 4 := by
              by_cases hc : byN t pos < 128
              · rw [hlo hc]; dsimp only; omega
              · rcases hhi (by omega) with ⟨_, h⟩ | ⟨_, h, hh⟩
                · rw [h]; dsimp only; omega
                · exfalso; unfold digV at hd; rw [if_neg (by omega), if_neg hh, if_neg (by omega), if_neg (by omega)] at hd; cases hd
            obtain ⟨n, en⟩ : ∃ n, n = (Utf8.decode t pos).2 := ⟨_, rfl⟩
            rw [← en] at G VSa hw hwu
            have TM := HTM.out num d (by omega) hn
            have hsn := stepN_lt 10 num d
            have HG2 : Hid (parseGo 10 t g (pos + n) (stepN 10 num d) (lg || stepL 10 num d) (decide (dg + 1 ≠ 0) && !false) = R) := by
              show _ = _
              rw [show (decide (dg + 1 ≠ 0) && !false) = true from by simp, ← G]
              exact HG.out
            obtain ⟨sn, esn⟩ : ∃ sn, sn = stepN 10 num d := ⟨_, rfl⟩
            obtain ⟨sl, esl⟩ : ∃ sl, sl = stepL 10 num d := ⟨_, rfl⟩
            rw [← esn] at HG2 TM hsn
            rw [← esl] at HG2 TM
            have HSN : Hid (sn < 115792089237316195423570985008687907853269984665640564039457584007913129639936) := hsn
            have d0 : ¬ ((d : Int) < 0) := by omega
            have dw : IntKind.u64.wrap (d : Int) = (d : Int) := by rw [IntKind.wrap_u64]; omega
            clear G G1 G2 G3 HG VS VN hlo hhi hd hc95 eC hr95 en esn esl hsn
            go_wp2_with fail
            refine (VSa _).mono ?_
            rintro e w3 ⟨rfl, rfl⟩
            have cN := bN.cell
            go_wp2_with fail
            refine (TM _).mono ?_
            rintro e w4 ⟨rfl, hb4⟩
            have bR4 := bR.belowAll hb4; have bN4 := bN.belowAll hb4
            have hbw4 := bStep hbr hb4
            clear bR bN hbr hb4 cN
            obtain ⟨N13, e13⟩ : ∃ N13, N13 = w4.heap.size := ⟨_, rfl⟩
            obtain ⟨w5, hw5⟩ : ∃ w5 : World, w5 = w4.alloc (.cells #[.int .u64 ((limb 0 (sn) : Nat) : Int), .int .u64 ((limb 1 (sn) : Nat) : Int), .int .u64 ((limb 2 (sn) : Nat) : Int), .int .u64 ((limb 3 (sn) : Nat) : Int)] 24) := ⟨_, rfl⟩
            have bR5 : Blk w5 24 w.heap.size (fun _ => 0) := by rw [hw5]; exact bR4.alloc _
            have bN5 : Blk w5 24 (w.heap.size + 1) (fun i => limb i num) := by rw [hw5]; exact bN4.alloc _
            have bS5 : Blk w5 24 N13 (fun i => limb i sn) := by rw [hw5]; exact Blk.newAt _ _ _ (fun i => limb i sn) e13
            have hbw5 : Below w.heap.size w w5 := by rw [hw5]; exact bAlloc hbw4 _
            have l13 : w.heap.size + 1 < N13 := by have := bN4.lt; omega
            go_upto_region 26 with fail
            rw [← hw5, ← e13]
            clear hw5 e13 bR4 bN4 hbw4
            have cS := bS5.cell; have cN := bN5.cell; have fN := bN5.frozen
            go_upto_region 27 with fail
            obtain ⟨w6, hw6⟩ : ∃ w6 : World, w6 = (((w5.setCell ⟨w.heap.size + 1, 0, none⟩ (.int .u64 ((limb 0 sn : Nat) : Int))).setCell ⟨w.heap.size + 1, 1, none⟩ (.int .u64 ((limb 1 sn : Nat) : Int))).setCell ⟨w.heap.size + 1, 2, none⟩ (.int .u64 ((limb 2 sn : Nat) : Int))).setCell ⟨w.heap.size + 1, 3, none⟩ (.int .u64 ((limb 3 sn : Nat) : Int)) := ⟨_, rfl⟩
            have bN6 : Blk w6 24 (w.heap.size + 1) (fun i => limb i sn) := by rw [hw6]; exact bN5.set4 (fun i => limb i sn)
            have bR6 : Blk w6 24 w.heap.size (fun _ => 0) := by rw [hw6]; exact bR5.other4 (by omega) _ _ _ _
            have hbw6 : Below w.heap.size w w6 := by rw [hw6]; exact bSet4 hbw5 (by omega) _ _ _ _
            rw [← hw6]
            clear hw6 bN5 bR5 bS5 hbw5 cS cN fN
            cases lg
            all_goals
              go_wp2
              go_roundw
              case measure => simp [intOf]; omega
              case rel => exact ⟨pos + n, sn, g, dg + 1, _, false, rfl, by go_num, rfl, by go_num, by omega, by omega, HSN.out, by omega, by omega, HG2, hbw6, bR6, bN6⟩
      · have hpi : ¬ (pos : Int) < (t.size : Int) := by omega
        have G := fun af => parseGo_end 10 t g pos num lg af hp
        have cr := bR.cell; have fr := bR.frozen; have cN := bN.cell
        by_cases hd0 : dg = 0
        · have HE : Hid (R = (0, 11)) := by show _ = _; rw [← HG.out, G, show (decide (dg ≠ 0) && !ln) = false from by simp [hd0]]; rfl
          have hdi : (((dg : Nat) : Int) == 0) = true := by rw [hd0]; rfl
          clear G HG hd0
          go_wp2
          refine bodyPost_ret (v := .tuple #[.agg #[.int .u64 0, .int .u64 0, .int .u64 0, .int .u64 0], .int .i64 11]) (by simp [results, Try.results27, go_sem, cr]) rfl ⟨by rw [HE.out, parV_zero]; rfl, ?_⟩
          repeat (first | with_reducible exact hbr | with_reducible refine Below.setCell ?_ (by first | omega | (simp; omega) | simp) _)
        · have hdi : (((dg : Nat) : Int) == 0) = false := by rw [beq_eq_false_iff_ne]; omega
          cases ln
          · have hE := HG.out
            rw [G, show (decide (dg ≠ 0) && !false) = true from by simp [hd0]] at hE
            cases lg
            · have HE : Hid (R = (num, 0)) := by show _ = _; rw [← hE]; rfl
              clear G HG hd0 hE
              go_wp2
              refine bodyPost_ret (v := .tuple #[.agg #[.int .u64 ((limb 0 (num) : Nat) : Int), .int .u64 ((limb 1 (num) : Nat) : Int), .int .u64 ((limb 2 (num) : Nat) : Int), .int .u64 ((limb 3 (num) : Nat) : Int)], .int .i64 0]) (by simp [results, Try.results27, go_sem, cr]) rfl ⟨by rw [HE.out]; rfl, ?_⟩
              repeat (first | with_reducible exact hbr | with_reducible refine Below.setCell ?_ (by first | omega | (simp; omega) | simp) _)
            · have HE : Hid (R = (0, 12)) := by show _ = _; rw [← hE]; rfl
              clear G HG hd0 hE
              go_wp2
              refine bodyPost_ret (v := .tuple #[.agg #[.int .u64 0, .int .u64 0, .int .u64 0, .int .u64 0], .int .i64 12]) (by simp [results, Try.results27, go_sem, cr]) rfl ⟨by rw [HE.out, parV_zero]; rfl, ?_⟩
              repeat (first | with_reducible exact hbr | with_reducible refine Below.setCell ?_ (by first | omega | (simp; omega) | simp) _)
          · have HE : Hid (R = (0, 11)) := by show _ = _; rw [← HG.out, G, show (decide (dg ≠ 0) && !true) = false from by simp]; rfl
            clear G HG hd0
            go_wp2
            refine bodyPost_ret (v := .tuple #[.agg #[.int .u64 0, .int .u64 0, .int .u64 0, .int .u64 0], .int .i64 11]) (by simp [results, Try.results27, go_sem, cr]) rfl ⟨by rw [HE.out, parV_zero]; rfl, ?_⟩
            repeat (first | with_reducible exact hbr | with_reducible refine Below.setCell ?_ (by first | omega | (simp; omega) | simp) _)
  · have i2 : (2 : Int) ≤ (s.size : Int) := by omega
    subst et
    go_enter Try.func27, Try.ntmps27
    go_wp2
    go_loopw [7, 8, 9, 10] (fun lv dv nv iv wr => ∃ (pos num f dg : Nat) (lg ln : Bool), lv = .bool lg ∧ dv = .int .i64 (dg : Int) ∧ nv = .bool ln ∧ iv = .int .i64 (pos : Int) ∧ dg ≤ pos ∧ pos ≤ 100100 ∧ num < 115792089237316195423570985008687907853269984665640564039457584007913129639936 ∧ 1 ≤ f ∧ t.size + 1 ≤ f + pos ∧ Hid (parseGo 10 t f pos num lg (decide (dg ≠ 0) && !ln) = R) ∧ Below w.heap.size w wr ∧ Blk wr 24 w.heap.size (fun _ => 0) ∧ Blk wr 24 (w.heap.size + 1) (fun i => limb i num)) (fun _ _ _ iv _ => t.size - (intOf iv).toNat)
    case atStart =>
      refine ⟨0, 0, t.size + 1, 0, false, false, rfl, rfl, rfl, rfl, by omega, by omega, by decide, by omega, by omega, HR, ?_, ?_, ?_⟩
      · repeat (first | with_reducible exact Below.refl _ _ | with_reducible refine Below.alloc ?_ (by first | omega | (simp; omega) | simp) _)
      · exact (Blk.newAt _ _ _ (fun _ => 0) rfl).alloc _
      · exact (Blk.newAt _ _ _ (fun _ => 0) (by simp)).congr (fun i _ => limb_zero i)
    case round =>
      obtain ⟨pos, num, f, dg, lg, ln, rfl, rfl, rfl, rfl, hdg, hpm, hn, hf1, hf2, HG, hbr, bR, bN⟩ := hrel
      obtain ⟨g, rfl⟩ : ∃ g, f = g + 1 := ⟨f - 1, by omega⟩
      have hts := HTS.out
      by_cases hp : pos < t.size
      · have hpi : (pos : Int) < (t.size : Int) := by omega
        have IX := HIX.out pos hp
        have hw := decode_width t pos hp
        have hlo := decode_low t pos hp
        have hhi := fun hc => (decode_wide t pos hp hc)
        have G1 := parseGo_line 10 t g pos num lg hp; have G2 := fun af h1 => parseGo_none 10 t g pos num lg af hp h1; have G3 := fun d af => parseGo_some 10 t g pos num d lg af hp
        have VS := fun d => HVS.out pos d hp; have VN := HVN.out pos hp
        by_cases hc95 : byN t pos = 95
        · have hd := hlo (by omega)
          rw [hd] at G1
          have G1a := G1 hc95
          have G2a := fun af h1 => G2 af h1 (by rw [hd]; show digV _ (byN t pos) = none; rw [hc95]; exact digV_95 _)
          rw [hc95] at IX
          by_cases haf : dg ≠ 0 ∧ ln = false
          · obtain ⟨hd0, rfl⟩ := haf
            have HG2 : Hid (parseGo 10 t g (pos + 1) num lg (decide (dg ≠ 0) && !true) = R) := by
              show _ = _
              have h := HG.out
              rw [show (decide (dg ≠ 0) && !false) = true from by simp [hd0], G1a] at h
              rw [show (decide (dg ≠ 0) && !true) = false from by simp]
              exact h
            have hdi : (((dg : Nat) : Int) == 0) = false := by rw [beq_eq_false_iff_ne]; omega
            clear G1 G1a G2 G2a G3 HG VS VN hlo hhi hd hc95
            go_wp2
            go_roundw
            case measure => simp [intOf]; omega
            case rel => exact ⟨pos + 1, num, g, dg, lg, true, rfl, rfl, rfl, by go_num, by omega, by omega, hn, by omega, by omega, HG2, hbr, bR, bN⟩
          · have haf2 : (decide (dg ≠ 0) && !ln) = false := by
              rw [Bool.eq_false_iff]; intro hh; rw [Bool.and_eq_true] at hh
              exact haf ⟨by simpa using hh.1, by simpa using hh.2⟩
            have HE : Hid (R = (0, 11)) := by
              show _ = _
              rw [← HG.out, haf2]
              exact G2a false (by rintro ⟨_, h⟩; cases h)
            have hcs : (((dg : Nat) : Int) == 0) = true ∨ ((((dg : Nat) : Int) == 0) = false ∧ ln = true) := by
              by_cases h0 : dg = 0
              · left; rw [h0]; rfl
              · right; refine ⟨by rw [beq_eq_false_iff_ne]; omega, ?_⟩
                cases ln with | true => rfl | false => exact absurd ⟨h0, rfl⟩ haf
            clear G1 G1a G2 G2a G3 HG VS VN hlo hhi hd hc95 haf haf2
            have cr := bR.cell; have fr := bR.frozen
            rcases hcs with hcs | ⟨hcs, rfl⟩
            all_goals
              go_wp2
              refine bodyPost_ret (v := .tuple #[.agg #[.int .u64 0, .int .u64 0, .int .u64 0, .int .u64 0], .int .i64 11]) (by simp [results, Try.results27, go_sem, cr]) rfl ⟨by rw [HE.out, parV_zero]; rfl, ?_⟩
              repeat (first | with_reducible exact hbr | with_reducible refine Below.setCell ?_ (by first | omega | (simp; omega) | simp) _)
        · have hq95 : (((byN t pos : Nat) : Int) == 95) = false := by rw [beq_eq_false_iff_ne]; omega
          have hr95 : (Utf8.decode t pos).1 ≠ 95 := by
            by_cases hc : byN t pos < 128
            · rw [hlo hc]; exact hc95
            · rcases hhi (by omega) with ⟨_, h⟩ | ⟨_, h, _⟩
              · rw [h]; dsimp only; omega
              · omega
          obtain ⟨C, eC⟩ : ∃ C : Int, C = ((byN t pos : Nat) : Int) := ⟨_, rfl⟩
          rw [← eC] at IX hq95
          cases hd : digV 10 (Utf8.decode t pos).1 with
          | none =>
            have HE : Hid (R = (0, 11)) := by
              show _ = _
              rw [← HG.out]
              exact G2 _ (fun h => hr95 h.1) hd
            have VNa := VN hd
            clear G1 G2 G3 HG VS VN hlo hhi hd hc95 eC hr95
            go_wp2_with fail
            refine (VNa _).mono ?_
            rintro e w3 ⟨rfl, rfl⟩
            have cr := bR.cell; have fr := bR.frozen
            go_wp2
            refine bodyPost_ret (v := .tuple #[.agg #[.int .u64 0, .int .u64 0, .int .u64 0, .int .u64 0], .int .i64 11]) (by simp [results, Try.results27, go_sem, cr]) rfl ⟨by rw [HE.out, parV_zero]; rfl, ?_⟩
            repeat (first | with_reducible exact hbr | with_reducible refine Below.setCell ?_ (by first | omega | (simp; omega) | simp) _)
          | some d =>
            have hdl := digV_lt hd
            have VSa := VS d hd
            have G := G3 d (decide (dg ≠ 0) && !ln) hd
            have hwu : (Utf8.decode t pos).2 ≤ 4 := by
              by_cases hc : byN t pos < 128
              · rw [hlo hc]; dsimp only; omega
              · rcases hhi (by omega) with ⟨_, h⟩ | ⟨_, h, hh⟩
                · rw [h]; dsimp only; omega
                · exfalso; unfold digV at hd; rw [if_neg (by omega), if_neg hh, if_neg (by omega), if_neg (by omega)] at hd; cases hd
            obtain ⟨n, en⟩ : ∃ n, n = (Utf8.decode t pos).2 := ⟨_, rfl⟩
            rw [← en] at G VSa hw hwu
            have TM := HTM.out num d (by omega) hn
            have hsn := stepN_lt 10 num d
            have HG2 : Hid (parseGo 10 t g (pos + n) (stepN 10 num d) (lg || stepL 10 num d) (decide (dg + 1 ≠ 0) && !false) = R) := by
              show _ = _
              rw [show (decide (dg + 1 ≠ 0) && !false) = true from by simp, ← G]
              exact HG.out
            obtain ⟨sn, esn⟩ : ∃ sn, sn = stepN 10 num d := ⟨_, rfl⟩
            obtain ⟨sl, esl⟩ : ∃ sl, sl = stepL 10 num d := ⟨_, rfl⟩
            rw [← esn] at HG2 TM hsn
            rw [← esl] at HG2 TM
            have HSN : Hid (sn < 115792089237316195423570985008687907853269984665640564039457584007913129639936) := hsn
            have d0 : ¬ ((d : Int) < 0) := by omega
            have dw : IntKind.u64.wrap (d : Int) = (d : Int) := by rw [IntKind.wrap_u64]; omega
            clear G G1 G2 G3 HG VS VN hlo hhi hd hc95 eC hr95 en esn esl hsn
            go_wp2_with fail
            refine (VSa _).mono ?_
            rintro e w3 ⟨rfl, rfl⟩
            have cN := bN.cell
            go_wp2_with fail
            refine (TM _).mono ?_
            rintro e w4 ⟨rfl, hb4⟩
            have bR4 := bR.belowAll hb4; have bN4 := bN.belowAll hb4
            have hbw4 := bStep hbr hb4
            clear bR bN hbr hb4 cN
            obtain ⟨N13, e13⟩ : ∃ N13, N13 = w4.heap.size := ⟨_, rfl⟩
            obtain ⟨w5, hw5⟩ : ∃ w5 : World, w5 = w4.alloc (.cells #[.int .u64 ((limb 0 (sn) : Nat) : Int), .int .u64 ((limb 1 (sn) : Nat) : Int), .int .u64 ((limb 2 (sn) : Nat) : Int), .int .u64 ((limb 3 (sn) : Nat) : Int)] 24) := ⟨_, rfl⟩
            have bR5 : Blk w5 24 w.heap.size (fun _ => 0) := by rw [hw5]; exact bR4.alloc _
            have bN5 : Blk w5 24 (w.heap.size + 1) (fun i => limb i num) := by rw [hw5]; exact bN4.alloc _
            have bS5 : Blk w5 24 N13 (fun i => limb i sn) := by rw [hw5]; exact Blk.newAt _ _ _ (fun i => limb i sn) e13
            have hbw5 : Below w.heap.size w w5 := by rw [hw5]; exact bAlloc hbw4 _
            have l13 : w.heap.size + 1 < N13 := by have := bN4.lt; omega
            go_upto_region 26 with fail
            rw [← hw5, ← e13]
            clear hw5 e13 bR4 bN4 hbw4
            have cS := bS5.cell; have cN := bN5.cell; have fN := bN5.frozen
            go_upto_region 27 with fail
            obtain ⟨w6, hw6⟩ : ∃ w6 : World, w6 = (((w5.setCell ⟨w.heap.size + 1, 0, none⟩ (.int .u64 ((limb 0 sn : Nat) : Int))).setCell ⟨w.heap.size + 1, 1, none⟩ (.int .u64 ((limb 1 sn : Nat) : Int))).setCell ⟨w.heap.size + 1, 2, none⟩ (.int .u64 ((limb 2 sn : Nat) : Int))).setCell ⟨w.heap.size + 1, 3, none⟩ (.int .u64 ((limb 3 sn : Nat) : Int)) := ⟨_, rfl⟩
            have bN6 : Blk w6 24 (w.heap.size + 1) (fun i => limb i sn) := by rw [hw6]; exact bN5.set4 (fun i => limb i sn)
            have bR6 : Blk w6 24 w.heap.size (fun _ => 0) := by rw [hw6]; exact bR5.other4 (by omega) _ _ _ _
            have hbw6 : Below w.heap.size w w6 := by rw [hw6]; exact bSet4 hbw5 (by omega) _ _ _ _
            rw [← hw6]
            clear hw6 bN5 bR5 bS5 hbw5 cS cN fN
            cases lg
            all_goals
              go_wp2
              go_roundw
              case measure => simp [intOf]; omega
              case rel => exact ⟨pos + n, sn, g, dg + 1, _, false, rfl, by go_num, rfl, by go_num, by omega, by omega, HSN.out, by omega, by omega, HG2, hbw6, bR6, bN6⟩
      · have hpi : ¬ (pos : Int) < (t.size : Int) := by omega
        have G := fun af => parseGo_end 10 t g pos num lg af hp
        have cr := bR.cell; have fr := bR.frozen; have cN := bN.cell
        by_cases hd0 : dg = 0
        · have HE : Hid (R = (0, 11)) := by show _ = _; rw [← HG.out, G, show (decide (dg ≠ 0) && !ln) = false from by simp [hd0]]; rfl
          have hdi : (((dg : Nat) : Int) == 0) = true := by rw [hd0]; rfl
          clear G HG hd0
          go_wp2
          refine bodyPost_ret (v := .tuple #[.agg #[.int .u64 0, .int .u64 0, .int .u64 0, .int .u64 0], .int .i64 11]) (by simp [results, Try.results27, go_sem, cr]) rfl ⟨by rw [HE.out, parV_zero]; rfl, ?_⟩
          repeat (first | with_reducible exact hbr | with_reducible refine Below.setCell ?_ (by first | omega | (simp; omega) | simp) _)
        · have hdi : (((dg : Nat) : Int) == 0) = false := by rw [beq_eq_false_iff_ne]; omega
          cases ln
          · have hE := HG.out
            rw [G, show (decide (dg ≠ 0) && !false) = true from by simp [hd0]] at hE
            cases lg
            · have HE : Hid (R = (num, 0)) := by show _ = _; rw [← hE]; rfl
              clear G HG hd0 hE
              go_wp2
              refine bodyPost_ret (v := .tuple #[.agg #[.int .u64 ((limb 0 (num) : Nat) : Int), .int .u64 ((limb 1 (num) : Nat) : Int), .int .u64 ((limb 2 (num) : Nat) : Int), .int .u64 ((limb 3 (num) : Nat) : Int)], .int .i64 0]) (by simp [results, Try.results27, go_sem, cr]) rfl ⟨by rw [HE.out]; rfl, ?_⟩
              repeat (first | with_reducible exact hbr | with_reducible refine Below.setCell ?_ (by first | omega | (simp; omega) | simp) _)
            · have HE : Hid (R = (0, 12)) := by show _ = _; rw [← hE]; rfl
              clear G HG hd0 hE
              go_wp2
              refine bodyPost_ret (v := .tuple #[.agg #[.int .u64 0, .int .u64 0, .int .u64 0, .int .u64 0], .int .i64 12]) (by simp [results, Try.results27, go_sem, cr]) rfl ⟨by rw [HE.out, parV_zero]; rfl, ?_⟩
              repeat (first | with_reducible exact hbr | with_reducible refine Below.setCell ?_ (by first | omega | (simp; omega) | simp) _)
          · have HE : Hid (R = (0, 11)) := by show _ = _; rw [← HG.out, G, show (decide (dg ≠ 0) && !true) = false from by simp]; rfl
            clear G HG hd0
            go_wp2
            refine bodyPost_ret (v := .tuple #[.agg #[.int .u64 0, .int .u64 0, .int .u64 0, .int .u64 0], .int .i64 11]) (by simp [results, Try.results27, go_sem, cr]) rfl ⟨by rw [HE.out, parV_zero]; rfl, ?_⟩
            repeat (first | with_reducible exact hbr | with_reducible refine Below.setCell ?_ (by first | omega | (simp; omega) | simp) _)

/-- The reference's Parse. -/
theorem rparse_any (s : ByteArray) (w : World) :
    Calls Try.prog 27 #[.string s] w fun e w' => e = .returned (parV (parse0 s)) ∧ Below w.heap.size w w' := by
  by_cases h : 100000 < s.size
  · rw [show parse0 s = (0, 12) from by unfold parse0; rw [if_pos h]]
    exact rparse_long s h w
  · by_cases hx : has0x s = true
    · have hx2 := hx
      unfold has0x at hx2
      rw [Bool.and_eq_true] at hx2
      refine rparse_walk s (s.extract 2 s.size) 16 true _ h ?_ (Or.inl ⟨rfl, rfl, rfl, by simpa using hx2.1, hx2.2⟩) ?_ w
      · rw [ByteArray.size_extract]; omega
      · unfold parse0
        rw [if_neg h, if_pos hx]
    · refine rparse_walk s s 10 false _ h (by omega) ?_ ?_ w
      · right
        by_cases h2 : 2 ≤ s.size
        · right
          refine ⟨rfl, rfl, rfl, h2, ?_⟩
          unfold has0x at hx
          rw [show decide (2 ≤ s.size) = true from by simp [h2], Bool.true_and] at hx
          simpa using hx
        · exact Or.inl ⟨rfl, rfl, rfl, h2⟩
      · unfold parse0
        rw [if_neg h, if_neg hx]
theorem parse_alive : parse0 ⟨#[49, 95, 48, 48, 48]⟩ = (1000, 0) := by
  have hx : has0x ⟨#[49, 95, 48, 48, 48]⟩ = false := by
    unfold has0x
    rw [ByteArray.toList_eq]
    decide +kernel
  unfold parse0
  rw [if_neg (by decide), if_neg (by rw [hx]; decide)]
  decide +kernel

set_option maxHeartbeats 4000000 in
set_option maxRecDepth 20000 in
theorem parses_gen (s : ByteArray) (x : Nat) (e1 : Int) (hx : x < 115792089237316195423570985008687907853269984665640564039457584007913129639936) (P0 : ∀ w, Calls Try.prog 9 #[.string ⟨#[49, 95, 48, 48, 48]⟩] w fun e w' => e = .returned (.tuple #[.agg #[.int .u64 1000, .int .u64 0, .int .u64 0, .int .u64 0], .int .i64 0]) ∧ Below w.heap.size w w')
    (P1 : ∀ w, Calls Try.prog 9 #[.string s] w fun e w' => e = .returned (.tuple #[.agg #[.int .u64 ((limb 0 (x) : Nat) : Int), .int .u64 ((limb 1 (x) : Nat) : Int), .int .u64 ((limb 2 (x) : Nat) : Int), .int .u64 ((limb 3 (x) : Nat) : Int)], .int .i64 e1]) ∧ Below w.heap.size w w') (P2 : ∀ w, Calls Try.prog 27 #[.string s] w fun e w' => e = .returned (.tuple #[.agg #[.int .u64 ((limb 0 (x) : Nat) : Int), .int .u64 ((limb 1 (x) : Nat) : Int), .int .u64 ((limb 2 (x) : Nat) : Int), .int .u64 ((limb 3 (x) : Nat) : Int)], .int .i64 e1]) ∧ Below w.heap.size w w') (w : World) :
    Calls Try.prog 7 #[.string s] w fun e w' => e = .returned (.bool true) ∧ Below w.heap.size w w' := by
  have QX := fun w => eqlE x x hx hx w
  rw [show decide (x = x) = true from by simp] at QX
  have qe : (e1 == e1) = true := by simp
  go_enter Try.func7, Try.ntmps7
  go_wp2_with fail
  refine (P0 _).mono ?_
  rintro e w1 ⟨rfl, hb1⟩
  obtain ⟨N3, e3⟩ : ∃ N3, N3 = w1.heap.size := ⟨_, rfl⟩
  obtain ⟨w2, hw2⟩ : ∃ w2 : World, w2 = w1.alloc (.cells #[.int .u64 1000, .int .u64 0, .int .u64 0, .int .u64 0] 24) := ⟨_, rfl⟩
  have bv2 : Blk w2 24 N3 (fun i => if i = 0 then 1000 else 0) := by rw [hw2]; exact Blk.newAt _ _ _ (fun i => if i = 0 then 1000 else 0) e3
  have hbw2 : Below w.heap.size w w2 := by rw [hw2]; exact bAlloc hb1 _
  have l3 : w.heap.size ≤ N3 := by rw [e3]; exact hb1.size
  go_upto_region 2 with fail
  rw [← hw2, ← e3]
  clear hw2 e3 hb1 P0
  have cv0 := bv2.cell 0 (by decide)
  simp only [if_true] at cv0
  go_wp2_with fail
  refine (P1 _).mono ?_
  rintro e w3 ⟨rfl, hb3⟩
  have bv3 := bv2.belowAll hb3
  have hbw3 := bStep hbw2 hb3
  clear bv2 hbw2 hb3 P1 cv0
  have ct := bv3.cell; have ft := bv3.frozen
  go_upto_region 5 with fail
  obtain ⟨w4, hw4⟩ : ∃ w4 : World, w4 = (((w3.setCell ⟨N3, 0, none⟩ (.int .u64 ((limb 0 x : Nat) : Int))).setCell ⟨N3, 1, none⟩ (.int .u64 ((limb 1 x : Nat) : Int))).setCell ⟨N3, 2, none⟩ (.int .u64 ((limb 2 x : Nat) : Int))).setCell ⟨N3, 3, none⟩ (.int .u64 ((limb 3 x : Nat) : Int)) := ⟨_, rfl⟩
  have bv4 : Blk w4 24 N3 (fun i => limb i x) := by rw [hw4]; exact bv3.set4 (fun i => limb i x)
  have hbw4 : Below w.heap.size w w4 := by rw [hw4]; exact bSet4 hbw3 l3 _ _ _ _
  rw [← hw4]
  clear hw4 bv3 hbw3 ct ft
  go_wp2_with fail
  refine (P2 _).mono ?_
  rintro e w5 ⟨rfl, hb5⟩
  have bv5 := bv4.belowAll hb5
  have hbw5 := bStep hbw4 hb5
  clear bv4 hbw4 hb5 P2
  obtain ⟨N5, e5⟩ : ∃ N5, N5 = w5.heap.size := ⟨_, rfl⟩
  obtain ⟨w6, hw6⟩ : ∃ w6 : World, w6 = w5.alloc (.cells #[.int .u64 ((limb 0 (x) : Nat) : Int), .int .u64 ((limb 1 (x) : Nat) : Int), .int .u64 ((limb 2 (x) : Nat) : Int), .int .u64 ((limb 3 (x) : Nat) : Int)] 24) := ⟨_, rfl⟩
  have bv6 : Blk w6 24 N3 (fun i => limb i x) := by rw [hw6]; exact bv5.alloc _
  have bu6 : Blk w6 24 N5 (fun i => limb i x) := by rw [hw6]; exact Blk.newAt _ _ _ (fun i => limb i x) e5
  have hbw6 : Below w.heap.size w w6 := by rw [hw6]; exact bAlloc hbw5 _
  go_upto_region 6 with fail
  rw [← hw6, ← e5]
  clear hw6 e5 bv5 hbw5
  have cv := bv6.cell; have cu := bu6.cell
  go_wp2
  go_ret
  exact ⟨rfl, hbw6⟩
theorem parses_walk (s : ByteArray) (w : World) :
    Calls Try.prog 7 #[.string s] w fun e w' => e = .returned (.bool true) ∧ Below w.heap.size w w' := by
  have P0 := fun w => parse_any ⟨#[49, 95, 48, 48, 48]⟩ w
  rw [parse_alive] at P0
  have e0 : parV (1000, 0) = .tuple #[.agg #[.int .u64 1000, .int .u64 0, .int .u64 0, .int .u64 0], .int .i64 0] := by
    unfold parV
    show Value.tuple #[.agg #[.int .u64 ((limb 0 (1000) : Nat) : Int), .int .u64 ((limb 1 (1000) : Nat) : Int), .int .u64 ((limb 2 (1000) : Nat) : Int), .int .u64 ((limb 3 (1000) : Nat) : Int)], _] = _
    rw [limb_sw 1000 0 (by decide), limb_sw 1000 1 (by decide), limb_sw 1000 2 (by decide), limb_sw 1000 3 (by decide)]
    rfl
  rw [e0] at P0
  exact parses_gen s (parse0 s).1 _ (parse0_lt s) P0 (fun w => parse_any s w) (fun w => rparse_any s w) w

end Go.Proofs.Ytlndeghggdpmaaa
