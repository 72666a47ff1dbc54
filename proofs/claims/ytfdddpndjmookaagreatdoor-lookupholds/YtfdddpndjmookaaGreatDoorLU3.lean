/- slices.SortFunc over a block of elements. -/
import Derived.Test.YtfdddpndjmookaaGreatDoorLU2
import Derived.Test.YtfdddpndjmookaaGreatDoorL5
namespace Go.Proofs.YtfdddpndjmookaaGreatDoor
open Go.RowKit Go.Sort

/-- The numbers of slices.SortFunc and what it calls. -/
def sortE_ren : Go.Shelf.Ren := ⟨fun | 6 => 36 | 15 => 53 | 14 => 52 | 28 => 76 | 29 => 77 | 20 => 68 | 21 => 69 | 22 => 70 | 23 => 71 | 24 => 72 | 25 => 73 | 26 => 74 | 27 => 75 | 46 => 93 | 47 => 94 | 48 => 95 | 49 => 96 | 50 => 97 | 57 => 103 | n => n, fun | 22 => 22 | 24 => 25 | 25 => 79 | 3 => 3 | 39 => 27 | 0 => 0 | 53 => 113 | 55 => 23 | 4 => 4 | 46 => 106 | 45 => 105 | 50 => 110 | 5 => 5 | 9 => 9 | 66 => 130 | 70 => 134 | 76 => 140 | 77 => 141 | n => n, fun | n => n⟩
theorem sortE : Go.Proofs.SlLaysF0.n6 Tryz.prog sortE_ren := {
  mixed := by kernel_rfl
  f6 := ⟨Tryz.f36.name, by decide, Tryz.func36.trans (congrArg some (by kernel_rfl))⟩
  f14 := ⟨Tryz.f52.name, by decide, Tryz.func52.trans (congrArg some (by kernel_rfl))⟩
  f15 := Tryz.func53.trans (congrArg some (by kernel_rfl))
  f20 := ⟨Tryz.f68.name, by decide, Tryz.func68.trans (congrArg some (by kernel_rfl))⟩
  f21 := ⟨Tryz.f69.name, by decide, Tryz.func69.trans (congrArg some (by kernel_rfl))⟩
  f22 := ⟨Tryz.f70.name, by decide, Tryz.func70.trans (congrArg some (by kernel_rfl))⟩
  f23 := ⟨Tryz.f71.name, by decide, Tryz.func71.trans (congrArg some (by kernel_rfl))⟩
  f24 := ⟨Tryz.f72.name, by decide, Tryz.func72.trans (congrArg some (by kernel_rfl))⟩
  f25 := ⟨Tryz.f73.name, by decide, Tryz.func73.trans (congrArg some (by kernel_rfl))⟩
  f26 := ⟨Tryz.f74.name, by decide, Tryz.func74.trans (congrArg some (by kernel_rfl))⟩
  f27 := ⟨Tryz.f75.name, by decide, Tryz.func75.trans (congrArg some (by kernel_rfl))⟩
  f28 := Tryz.func76.trans (congrArg some (by kernel_rfl))
  f29 := Tryz.func77.trans (congrArg some (by kernel_rfl))
  f46 := ⟨Tryz.f93.name, by decide, Tryz.func93.trans (congrArg some (by kernel_rfl))⟩
  f47 := Tryz.func94.trans (congrArg some (by kernel_rfl))
  f48 := Tryz.func95.trans (congrArg some (by kernel_rfl))
  f49 := ⟨Tryz.f96.name, by decide, Tryz.func96.trans (congrArg some (by kernel_rfl))⟩
  f50 := ⟨Tryz.f97.name, by decide, Tryz.func97.trans (congrArg some (by kernel_rfl))⟩
  f57 := ⟨Tryz.f103.name, by decide, Tryz.func103.trans (congrArg some (by kernel_rfl))⟩
  t0 := Tryz.underlying0
  a0 := Tryz.isAgg0
  z0 := Tryz.sizeOf0
  v0 := Tryz.zeroValue0
  t3 := Tryz.underlying3
  a3 := Tryz.isAgg3
  z3 := Tryz.sizeOf3
  v3 := Tryz.zeroValue3
  t4 := Tryz.underlying4
  a4 := Tryz.isAgg4
  z4 := Tryz.sizeOf4
  v4 := Tryz.zeroValue4
  t5 := Tryz.underlying5
  a5 := Tryz.isAgg5
  z5 := Tryz.sizeOf5
  v5 := Tryz.zeroValue5
  t9 := Tryz.underlying9
  a9 := Tryz.isAgg9
  z9 := Tryz.sizeOf9
  v9 := Tryz.zeroValue9
  t22 := Tryz.underlying22
  a22 := Tryz.isAgg22
  z22 := Tryz.sizeOf22
  v22 := Tryz.zeroValue22
  t25 := Tryz.underlying79
  a25 := Tryz.isAgg79
  z25 := Tryz.sizeOf79
  v25 := Tryz.zeroValue79
  t39 := Tryz.underlying27
  a39 := Tryz.isAgg27
  z39 := Tryz.sizeOf27
  v39 := Tryz.zeroValue27
  t45 := Tryz.underlying105
  a45 := Tryz.isAgg105
  z45 := Tryz.sizeOf105
  v45 := Tryz.zeroValue105
  t46 := Tryz.underlying106
  a46 := Tryz.isAgg106
  z46 := Tryz.sizeOf106
  v46 := Tryz.zeroValue106
  t50 := Tryz.underlying110
  a50 := Tryz.isAgg110
  z50 := Tryz.sizeOf110
  v50 := Tryz.zeroValue110
  t53 := Tryz.underlying113
  a53 := Tryz.isAgg113
  z53 := Tryz.sizeOf113
  v53 := Tryz.zeroValue113
  t55 := Tryz.underlying23
  a55 := Tryz.isAgg23
  z55 := Tryz.sizeOf23
  v55 := Tryz.zeroValue23
  t66 := Tryz.underlying130
  a66 := Tryz.isAgg130
  z66 := Tryz.sizeOf130
  v66 := Tryz.zeroValue130
  t70 := Tryz.underlying134
  a70 := Tryz.isAgg134
  z70 := Tryz.sizeOf134
  v70 := Tryz.zeroValue134
  t76 := Tryz.underlying140
  a76 := Tryz.isAgg140
  z76 := Tryz.sizeOf140
  v76 := Tryz.zeroValue140
  t77 := Tryz.underlying141
  a77 := Tryz.isAgg141
  z77 := Tryz.sizeOf141
  v77 := Tryz.zeroValue141 }


theorem sortK_blk {w : World} {G n m : Nat} {f : Nat → Nat} (hb : BlkE w G n f) (d : Array Nat) (hd : d.size = n) (os : Array Obj) : BlkE (sortWorldK encE 4 w G 0 m d os) G n (fun i => d[i]!) := by
  have hl := hb.lt
  obtain ⟨c, hc, hs, _⟩ := hb
  refine ⟨putCells id 0 (flatK encE 4 d) c, ?_, by simp [putCells, hs], fun i hi j hj => ?_⟩
  · show ((w.heap.modify G (onCells (putCells id 0 (flatK encE 4 d)))) ++ os)[G]? = _
    rw [Array.getElem?_append_left (by simpa using hl), Array.getElem?_modify, if_pos rfl, hc]
    rfl
  · have hlt : i * 4 + j < c.size := by omega
    have hf : (flatK encE 4 d)[i * 4 + j]! = .int .u64 ((limb j d[i]! : Nat) : Int) := by
      rw [get_flatK encE 4 d _ (by omega), show (i * 4 + j) / 4 = i by omega, show (i * 4 + j) % 4 = j by omega, encE_get _ _ hj]
    unfold putCells
    rw [Array.getElem?_mapIdx, Array.getElem?_eq_getElem hlt]
    simp only [Option.map_some, Nat.zero_add, Nat.zero_le, true_and, size_flatK, Nat.sub_zero, id_eq, hf]
    rw [if_pos (by omega)]
theorem sortK_kept (w : World) (G m : Nat) (d : Array Nat) (os : Array Obj) : Kept G w (sortWorldK encE 4 w G 0 m d os) := by
  refine ⟨rfl, rfl, rfl, ?_, fun k hk hne => ?_⟩
  · show w.heap.size ≤ ((w.heap.modify G (onCells (putCells id 0 (flatK encE 4 d)))) ++ os).size
    simp
  · show ((w.heap.modify G (onCells (putCells id 0 (flatK encE 4 d)))) ++ os)[k]? = _
    rw [Array.getElem?_append_left (by simpa using hk), Array.getElem?_modify, if_neg (fun e => hne e.symm)]
theorem fl_arr {n : Nat} {f : Nat → Nat} {i : Nat} (h : i < n) : (fl n f).toArray[i]! = f i := by
  rw [getElem!_pos _ _ (by simpa [fl] using h)]
  simp [fl]
theorem arr_list (d : Array Nat) (i : Nat) : d[i]! = d.toList.getD i 0 := by
  rcases Nat.lt_or_ge i d.size with h | h
  · rw [getElem!_pos d i h]; simp [List.getD_eq_getElem?_getD, h]
  · rw [getElem!_neg d i (by omega)]; simp [List.getD_eq_getElem?_getD, h]
/-- slices.SortFunc by compare: the block holds its elements, rising. -/
theorem sort_any (G n c : Nat) (f : Nat → Nat) (hn : n ≤ 1000000) (hf : ∀ i, i < n → f i < 115792089237316195423570985008687907853269984665640564039457584007913129639936) (w : World) (hb : BlkE w G n f) :
    Calls Tryz.prog 36 #[.slice (some ⟨G, 0, none⟩) n c, .func (.func 37) #[] #[]] w fun e w' => e = .returned (.tuple #[]) ∧ BlkE w' G n (fun i => (rsg (fl n f)).getD i 0) ∧ Kept G w w' := by
  have hs : (fl n f).toArray.size = n := by simp [fl]
  have hH : HoldsK encE 4 w G 0 (fl n f).toArray := by
    intro t ht
    rw [size_flatK, hs] at ht
    refine ⟨?_, hb.frozen _⟩
    have h := hb.cell (t / 4) (by omega) (t % 4) (by omega)
    rw [show t / 4 * 4 + t % 4 = 0 + t by omega] at h
    rw [h, get_flatK encE 4 _ _ (by rw [hs]; exact ht), encE_get _ _ (by omega), fl_arr (by omega)]
    rfl
  have eg : ∀ args w, (callFunc 37 args).run Tryz.prog w = .ok (.enter 37 args) w := enters_of Tryz.func37 (by kernel_rfl) rfl
  have hcon := AnyQ.slices_SortFunc sortE 4 Tryz.isAgg25 Tryz.sizeOf25 encE (fun _ => rfl) (fun x v hv => by simp [encE] at hv; rcases hv with rfl | rfl | rfl | rfl <;> rfl) cmpM swoE 37 #[] G 0 c (fl n f).toArray w eg (cmpLaysE G 0 (fl n f).toArray.size w) hH hb.lt (by rw [hs]; omega)
  change Calls Tryz.prog 36 _ _ _ at hcon
  rw [hs] at hcon
  refine hcon.mono ?_
  rintro e w' ⟨rfl, d', m, os, ⟨p1, _, p3⟩, hsd, rfl⟩
  rw [hs] at p1
  have hp : d'.toList.Perm (fl n f) := by
    have e1 : d'.extract 0 n = d' := by rw [← p1]; simp
    have e2 : (fl n f).toArray.extract 0 n = (fl n f).toArray := by simp [List.take_of_length_le, fl_len]
    rw [e1, e2] at p3
    exact p3
  have hlt : ∀ i, i < n → d'[i]! < 115792089237316195423570985008687907853269984665640564039457584007913129639936 := by
    intro i hi
    have hm : d'[i]! ∈ fl n f := by
      rw [← hp.mem_iff, getElem!_pos d' i (by omega)]
      exact Array.getElem_mem_toList _
    obtain ⟨k, hk, e⟩ := fl_mem.1 hm
    rw [← e]; exact hf k hk
  have hasc : Asc d'.toList := by
    refine List.pairwise_iff_getElem.2 fun i j hi hj hij => ?_
    have hi' : i < d'.size := by simpa using hi
    have hj' : j < d'.size := by simpa using hj
    have h := hsd i j (Nat.zero_le _) hij (by omega)
    have a := hlt i (by omega)
    have b := hlt j (by omega)
    rw [ltE, Nat.mod_eq_of_lt a, Nat.mod_eq_of_lt b, decide_eq_false_iff_not, getElem!_pos d' i hi', getElem!_pos d' j hj'] at h
    rw [Array.getElem_toList, Array.getElem_toList]
    omega
  have ho := rsg_only hasc hp
  refine ⟨rfl, (sortK_blk hb d' p1 os).congr (fun i _ => ?_), sortK_kept _ _ _ _ _⟩
  rw [arr_list, ho]
end Go.Proofs.YtfdddpndjmookaaGreatDoor
