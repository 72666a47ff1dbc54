/- Beside RZ2: three may come up. -/
import Derived.Test.YtaeembdabnomaaaGreatDoorRZ2
namespace Go.Proofs.YtaeembdabnomaaaGreatDoor
section
variable {P : Program} {ops : Array Oper} {Q : Exit → Act → World → Prop} {md : Region.Mode} {S : World → Prop} {z : Nat}
/-- Three may come up. -/
theorem wpZ_three {i j l : Nat} {o o' o'' : Oper} {n : Nat} {listed : Array Bool} {a : Act} {w : World} (hr : Region.ready md ops listed = [i, j, l]) (ho : ops[i]? = some o) (ho' : ops[j]? = some o') (ho'' : ops[l]? = some o'')
    (h : ∀ K : Act → World → Prop, Shut (∀ a' w', (i ≠ z → S w') → wpZ P md ops Q S z n (listed.setIfInBounds i true) a' w' → K a' w') → if Region.wanted o (yielded ops a.tmps) = true then Oper.wp P o a w K Q else K (a.put o.dst undef) w)
    (h' : ∀ K : Act → World → Prop, Shut (∀ a' w', (j ≠ z → S w') → wpZ P md ops Q S z n (listed.setIfInBounds j true) a' w' → K a' w') → if Region.wanted o' (yielded ops a.tmps) = true then Oper.wp P o' a w K Q else K (a.put o'.dst undef) w)
    (h'' : ∀ K : Act → World → Prop, Shut (∀ a' w', (l ≠ z → S w') → wpZ P md ops Q S z n (listed.setIfInBounds l true) a' w' → K a' w') → if Region.wanted o'' (yielded ops a.tmps) = true then Oper.wp P o'' a w K Q else K (a.put o''.dst undef) w) :
    wpZ P md ops Q S z (n + 1) listed a w := by
  refine ⟨fun h0 => ?_, fun k hk => ?_⟩
  · rw [hr] at h0; cases h0
  · rw [hr, List.mem_cons, List.mem_cons, List.mem_singleton] at hk
    rcases hk with rfl | rfl | rfl
    · exact wpOp_step ho (fun K hK => h K (fun a' w' hS hW => hK a' w' ⟨hS, hW⟩))
    · exact wpOp_step ho' (fun K hK => h' K (fun a' w' hS hW => hK a' w' ⟨hS, hW⟩))
    · exact wpOp_step ho'' (fun K hK => h'' K (fun a' w' hS hW => hK a' w' ⟨hS, hW⟩))
end
end Go.Proofs.YtaeembdabnomaaaGreatDoor
