/- LookupOrders of anything. -/
import Derived.Test.YtobeeoelfmfpdaaDoorPLUD
namespace Go.Proofs.YtobeeoelfmfpdaaDoor
open Go.RowKit
theorem rsg_lt {s n : Nat} {f : Nat → Nat} : ∀ v, v ∈ (rsg (fl n fun i => addP s (f i) 0)) → v < modN s := fun v hv => by
  obtain ⟨i, _, e⟩ := fl_mem.1 ((rsg_perm _).mem_iff.1 hv)
  rw [← e]; exact addP_lt _ _ _
theorem mt_lt {a t0 t : List Nat} {M : Nat} (hl : a.length = t0.length) (h : wo a t0 a.length = some t) (ha : ∀ v, v ∈ a → v < M) (ht : ∀ v, v ∈ t0 → v < M) : ∀ i, i < a.length → mtF a t i < M := by
  intro i hi
  cases hf : isF a i
  · rw [mtF_other hf]
    have h1 := wo_len _ h
    have h2 := nf_mono a (i + 1) a.length (by omega)
    rw [nf_other hf] at h2
    exact ht _ (wo_mem _ h _ (getD_mem (by omega)))
  · rw [mtF_first hf]
    exact ha _ (getD_mem hi)
end Go.Proofs.YtobeeoelfmfpdaaDoor
