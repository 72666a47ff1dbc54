/- slices.SortFunc over a block of elements. -/
import Derived.Test.YtobeeoelfmfpdaaDoorXLU2
import Derived.Test.YtobeeoelfmfpdaaDoorXL5
namespace Go.Proofs.YtobeeoelfmfpdaaDoor
open Go.RowKit Go.Sort
/-- The numbers of slices.SortFunc and what it calls. -/
def sortE_ren : Go.Shelf.Ren := ⟨fun | 6 => 49 | 15 => 73 | 14 => 72 | 28 => 94 | 29 => 95 | 20 => 86 | 21 => 87 | 22 => 88 | 23 => 89 | 24 => 90 | 25 => 91 | 26 => 92 | 27 => 93 | 46 => 106 | 47 => 107 | 48 => 108 | 49 => 109 | 50 => 110 | 57 => 113 | n => n, fun | 22 => 25 | 24 => 24 | 25 => 88 | 3 => 3 | 39 => 76 | 0 => 0 | 53 => 127 | 55 => 22 | 4 => 4 | 46 => 120 | 45 => 119 | 50 => 124 | 5 => 5 | 9 => 9 | 66 => 137 | 70 => 141 | 76 => 144 | 77 => 145 | n => n, fun | n => n⟩
theorem sortE : Go.Proofs.SlLaysF0.n6 Tryd.prog sortE_ren := {
  mixed := by kernel_rfl
  f6 := ⟨Tryd.f49.name, by decide, Tryd.func49.trans (congrArg some (by kernel_rfl))⟩
  f14 := ⟨Tryd.f72.name, by decide, Tryd.func72.trans (congrArg some (by kernel_rfl))⟩
  f15 := Tryd.func73.trans (congrArg some (by kernel_rfl))
  f20 := ⟨Tryd.f86.name, by decide, Tryd.func86.trans (congrArg some (by kernel_rfl))⟩
  f21 := ⟨Tryd.f87.name, by decide, Tryd.func87.trans (congrArg some (by kernel_rfl))⟩
  f22 := ⟨Tryd.f88.name, by decide, Tryd.func88.trans (congrArg some (by kernel_rfl))⟩
  f23 := ⟨Tryd.f89.name, by decide, Tryd.func89.trans (congrArg some (by kernel_rfl))⟩
  f24 := ⟨Tryd.f90.name, by decide, Tryd.func90.trans (congrArg some (by kernel_rfl))⟩
  f25 := ⟨Tryd.f91.name, by decide, Tryd.func91.trans (congrArg some (by kernel_rfl))⟩
  f26 := ⟨Tryd.f92.name, by decide, Tryd.func92.trans (congrArg some (by kernel_rfl))⟩
  f27 := ⟨Tryd.f93.name, by decide, Tryd.func93.trans (congrArg some (by kernel_rfl))⟩
  f28 := Tryd.func94.trans (congrArg some (by kernel_rfl))
  f29 := Tryd.func95.trans (congrArg some (by kernel_rfl))
  f46 := ⟨Tryd.f106.name, by decide, Tryd.func106.trans (congrArg some (by kernel_rfl))⟩
  f47 := Tryd.func107.trans (congrArg some (by kernel_rfl))
  f48 := Tryd.func108.trans (congrArg some (by kernel_rfl))
  f49 := ⟨Tryd.f109.name, by decide, Tryd.func109.trans (congrArg some (by kernel_rfl))⟩
  f50 := ⟨Tryd.f110.name, by decide, Tryd.func110.trans (congrArg some (by kernel_rfl))⟩
  f57 := ⟨Tryd.f113.name, by decide, Tryd.func113.trans (congrArg some (by kernel_rfl))⟩
  t0 := Tryd.underlying0
  a0 := Tryd.isAgg0
  z0 := Tryd.sizeOf0
  v0 := Tryd.zeroValue0
  t3 := Tryd.underlying3
  a3 := Tryd.isAgg3
  z3 := Tryd.sizeOf3
  v3 := Tryd.zeroValue3
  t4 := Tryd.underlying4
  a4 := Tryd.isAgg4
  z4 := Tryd.sizeOf4
  v4 := Tryd.zeroValue4
  t5 := Tryd.underlying5
  a5 := Tryd.isAgg5
  z5 := Tryd.sizeOf5
  v5 := Tryd.zeroValue5
  t9 := Tryd.underlying9
  a9 := Tryd.isAgg9
  z9 := Tryd.sizeOf9
  v9 := Tryd.zeroValue9
  t22 := Tryd.underlying25
  a22 := Tryd.isAgg25
  z22 := Tryd.sizeOf25
  v22 := Tryd.zeroValue25
  t25 := Tryd.underlying88
  a25 := Tryd.isAgg88
  z25 := Tryd.sizeOf88
  v25 := Tryd.zeroValue88
  t39 := Tryd.underlying76
  a39 := Tryd.isAgg76
  z39 := Tryd.sizeOf76
  v39 := Tryd.zeroValue76
  t45 := Tryd.underlying119
  a45 := Tryd.isAgg119
  z45 := Tryd.sizeOf119
  v45 := Tryd.zeroValue119
  t46 := Tryd.underlying120
  a46 := Tryd.isAgg120
  z46 := Tryd.sizeOf120
  v46 := Tryd.zeroValue120
  t50 := Tryd.underlying124
  a50 := Tryd.isAgg124
  z50 := Tryd.sizeOf124
  v50 := Tryd.zeroValue124
  t53 := Tryd.underlying127
  a53 := Tryd.isAgg127
  z53 := Tryd.sizeOf127
  v53 := Tryd.zeroValue127
  t55 := Tryd.underlying22
  a55 := Tryd.isAgg22
  z55 := Tryd.sizeOf22
  v55 := Tryd.zeroValue22
  t66 := Tryd.underlying137
  a66 := Tryd.isAgg137
  z66 := Tryd.sizeOf137
  v66 := Tryd.zeroValue137
  t70 := Tryd.underlying141
  a70 := Tryd.isAgg141
  z70 := Tryd.sizeOf141
  v70 := Tryd.zeroValue141
  t76 := Tryd.underlying144
  a76 := Tryd.isAgg144
  z76 := Tryd.sizeOf144
  v76 := Tryd.zeroValue144
  t77 := Tryd.underlying145
  a77 := Tryd.isAgg145
  z77 := Tryd.sizeOf145
  v77 := Tryd.zeroValue145 }
theorem sortK_blk {w : World} {G n m : Nat} {f : Nat → Nat} (hb : BlkE w G n f) (d : Array Nat) (hd : d.size = n) (os : Array Obj) : BlkE (sortWorldK encE 4 w G 0 m d os) G n (fun i => d[i]!) := by
  have hl := hb.lt
  obtain ⟨c, hc, hs, _⟩ := hb
  refine ⟨putCells id 0 (flatK encE 4 d) c, ?_, by simp [putCells, hs], fun i hi j hj => ?_⟩
  · show ((w.heap.modify G (onCells (putCells id 0 (flatK encE 4 d)))) ++ os)[G]? = _
    rw [Array.getElem?_append_left (by simpa using hl), Array.getElem?_modify, if_pos rfl, hc]
    rfl
  · have hlt : i * 4 + j < c.size := by omega
    have hf : (flatK encE 4 d)[i * 4 + j]! = .int .u64 ((limb j d[i]! : Nat) : Int) := by
      rw [get_flatK encE 4 d _ (by omega), show (i * 4 + j) / 4 = i by omega, show (i * 4 + j) % 4 = j by omega, encE_get _ _ hj]
    unfold putCells
    rw [Array.getElem?_mapIdx, Array.getElem?_eq_getElem hlt]
    simp only [Option.map_some, Nat.zero_add, Nat.zero_le, true_and, size_flatK, Nat.sub_zero, id_eq, hf]
    rw [if_pos (by omega)]
theorem sortK_kept (w : World) (G m : Nat) (d : Array Nat) (os : Array Obj) : Kept G w (sortWorldK encE 4 w G 0 m d os) := by
  refine ⟨rfl, rfl, rfl, ?_, fun k hk hne => ?_⟩
  · show w.heap.size ≤ ((w.heap.modify G (onCells (putCells id 0 (flatK encE 4 d)))) ++ os).size
    simp
  · show ((w.heap.modify G (onCells (putCells id 0 (flatK encE 4 d)))) ++ os)[k]? = _
    rw [Array.getElem?_append_left (by simpa using hk), Array.getElem?_modify, if_neg (fun e => hne e.symm)]
theorem fl_arr {n : Nat} {f : Nat → Nat} {i : Nat} (h : i < n) : (fl n f).toArray[i]! = f i := by
  rw [getElem!_pos _ _ (by simpa [fl] using h)]
  simp [fl]
theorem arr_list (d : Array Nat) (i : Nat) : d[i]! = d.toList.getD i 0 := by
  rcases Nat.lt_or_ge i d.size with h | h
  · rw [getElem!_pos d i h]; simp [List.getD_eq_getElem?_getD, h]
  · rw [getElem!_neg d i (by omega)]; simp [List.getD_eq_getElem?_getD, h]
/-- slices.SortFunc by compare: the block holds its elements, rising. -/
theorem sort_any (G n c : Nat) (f : Nat → Nat) (hn : n ≤ 1000000) (hf : ∀ i, i < n → f i < 115792089237316195423570985008687907853269984665640564039457584007913129639936) (w : World) (hb : BlkE w G n f) :
    Calls Tryd.prog 49 #[.slice (some ⟨G, 0, none⟩) n c, .func (.func 50) #[] #[]] w fun e w' => e = .returned (.tuple #[]) ∧ BlkE w' G n (fun i => (rsg (fl n f)).getD i 0) ∧ Kept G w w' := by
  have hs : (fl n f).toArray.size = n := by simp [fl]
  have hH : HoldsK encE 4 w G 0 (fl n f).toArray := by
    intro t ht
    rw [size_flatK, hs] at ht
    refine ⟨?_, hb.frozen _⟩
    have h := hb.cell (t / 4) (by omega) (t % 4) (by omega)
    rw [show t / 4 * 4 + t % 4 = 0 + t by omega] at h
    rw [h, get_flatK encE 4 _ _ (by rw [hs]; exact ht), encE_get _ _ (by omega), fl_arr (by omega)]
    rfl
  have eg : ∀ args w, (callFunc 50 args).run Tryd.prog w = .ok (.enter 50 args) w := enters_of Tryd.func50 (by kernel_rfl) rfl
  have hcon := AnyQ.slices_SortFunc sortE 4 Tryd.isAgg24 Tryd.sizeOf24 encE (fun _ => rfl) (fun x v hv => by simp [encE] at hv; rcases hv with rfl | rfl | rfl | rfl <;> rfl) cmpM swoE 50 #[] G 0 c (fl n f).toArray w eg (cmpLaysE G 0 (fl n f).toArray.size w) hH hb.lt (by rw [hs]; omega)
  change Calls Tryd.prog 49 _ _ _ at hcon
  rw [hs] at hcon
  refine hcon.mono ?_
  rintro e w' ⟨rfl, d', m, os, ⟨p1, _, p3⟩, hsd, rfl⟩
  rw [hs] at p1
  have hp : d'.toList.Perm (fl n f) := by
    have e1 : d'.extract 0 n = d' := by rw [← p1]; simp
    have e2 : (fl n f).toArray.extract 0 n = (fl n f).toArray := by simp [List.take_of_length_le, fl_len]
    rw [e1, e2] at p3
    exact p3
  have hlt : ∀ i, i < n → d'[i]! < 115792089237316195423570985008687907853269984665640564039457584007913129639936 := by
    intro i hi
    have hm : d'[i]! ∈ fl n f := by
      rw [← hp.mem_iff, getElem!_pos d' i (by omega)]
      exact Array.getElem_mem_toList _
    obtain ⟨k, hk, e⟩ := fl_mem.1 hm
    rw [← e]; exact hf k hk
  have hasc : Asc d'.toList := by
    refine List.pairwise_iff_getElem.2 fun i j hi hj hij => ?_
    have hi' : i < d'.size := by simpa using hi
    have hj' : j < d'.size := by simpa using hj
    have h := hsd i j (Nat.zero_le _) hij (by omega)
    have a := hlt i (by omega)
    have b := hlt j (by omega)
    rw [ltE, Nat.mod_eq_of_lt a, Nat.mod_eq_of_lt b, decide_eq_false_iff_not, getElem!_pos d' i hi', getElem!_pos d' j hj'] at h
    rw [Array.getElem_toList, Array.getElem_toList]
    omega
  have ho := rsg_only hasc hp
  refine ⟨rfl, (sortK_blk hb d' p1 os).congr (fun i _ => ?_), sortK_kept _ _ _ _ _⟩
  rw [arr_list, ho]
end Go.Proofs.YtobeeoelfmfpdaaDoor
