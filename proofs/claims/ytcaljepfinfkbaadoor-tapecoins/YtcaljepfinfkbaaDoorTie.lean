/-
  DERIVED. GIVEN WITH THE SEED: THE PROGRAM's TIES (one call each: nine closed facts by the kernel) AND EACH ROW's TIE, after the 31st guide's Derived/Test/Toyas{Tie, Card}.lean. No idea stands in it: it is a product of the set-up. Laid BY PROGRAM, IN A SANDBOX (cutbox-door.mjs). By AI agents, Wed Nov 11 2026. No macro, syntax, notation, axiom, sorry.
-/
import Derived.Test.YtcaljepfinfkbaaDoorRows
import Derived.LaidByTextLater
import Derived.SevenTiedAt
import Derived.LaidSub
import Derived.LaidOnce
namespace Go.Proofs.YtcaljepfinfkbaaDoor
open Go
set_option maxRecDepth 100000
theorem seatTie1 : Tryd.prog.laidByTextLater [("sigil/blake.firstWords", Rows.laid_sigil_blake_firstWords), ("sigil/field.primes", Rows.laid_sigil_field_primes), ("sigil/curve.constants", Rows.laid_sigil_curve_constants)] [.data, .data, .data] true :=
  Program.laidByTextLater_by_one 47 8 161 (by kernel_rfl) (by kernel_rfl) (by kernel_rfl) (by kernel_rfl) (by kernel_rfl) (by kernel_rfl) (fun _ _ => by kernel_rfl)
theorem noOwnUnsafe : Tryd.pinned.checked.prog.headLifts.contains "ownunsafe" = false := by kernel_rfl
theorem tie : Tryd.prog.laidByTextLater [("sigil/blake.firstWords", Rows.laid_sigil_blake_firstWords), ("sigil/field.primes", Rows.laid_sigil_field_primes), ("sigil/curve.constants", Rows.laid_sigil_curve_constants)] [.data, .data, .data] true :=
  Program.laidByTextLater.sub seatTie1 ["sigil/blake.firstWords", "sigil/field.primes", "sigil/curve.constants"] (by kernel_rfl) (by kernel_rfl)
theorem tapeCoins_row_tie : Rows.tapeCoinsRow.laidByTextAt .later Tryd.pinned [.data, .data, .data] true :=
  OpenClaim.laidByTextAt_later rfl rfl tie noOwnUnsafe
theorem tapeCoinsUpto_row_tie : Rows.tapeCoinsUptoRow.laidByTextAt .later Tryd.pinned [.data, .data, .data] true :=
  OpenClaim.laidByTextAt_later rfl rfl tie noOwnUnsafe
end Go.Proofs.YtcaljepfinfkbaaDoor
