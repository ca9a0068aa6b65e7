import Derived.Test.YtpmkjeihbddfpabDoorCoRFB11
import Derived.LaidMore
import Derived.Stop.Joined
/- OUR OWN. The listed tables: the door's own heap meets the condition; what the condition gives. -/
namespace Go.Proofs.YtpmkjeihbddfpabDoor
open Go.ChangeShapes Go.WideShapes Go.ChangeAt Go.RowKit
set_option linter.unusedVariables false
set_option linter.unusedSimpArgs false

def laid3 {H : Type} : List (String × DataW H) := [("math/bits.deBruijn32tab", Rows.laid_math_bits_deBruijn32tab), ("math/bits.deBruijn64tab", Rows.laid_math_bits_deBruijn64tab), ("internal/strconv.uint64pow10", Rows.laid_internal_strconv_uint64pow10)]

set_option maxRecDepth 100000 in
theorem door_met (os : Os) (args : Array Value) : laidMetH Tryd.prog laid3 ((World.doorLaid Tryd.prog 400 os).forCall (fun _ _ => 0) ⟨#[], args, []⟩).memory :=
  laidMetH_of_parts3 (fuel := 8) (laidMet_of_run' 8 (by kernel_rfl) (by kernel_rfl)) (by kernel_rfl) (by kernel_rfl)

set_option maxRecDepth 100000 in
theorem tab_of_laid {W : World} (h : laidMetH Tryd.prog laid3 W) : Tab W.heap.size W := by
  rw [MakeChecks.laidMetH_plain _ _ _ (by kernel_rfl)] at h
  obtain ⟨ps, ⟨g0, t0, cs0, f0, p0, q0, hg0, ht0, hv0, hd0, ⟨g1, t1, cs1, f1, p1, q1, hg1, ht1, hv1, hd1, ⟨g2, t2, cs2, f2, p2, q2, hg2, ht2, hv2, hd2, _, _⟩, _⟩, _⟩, _, _⟩ := h
  obtain rfl := Option.some.inj (tabNamed.symm.trans hg2)
  have ht : (Tryd.prog.globals[0]?).map (·.type) = some 111 := by kernel_rfl
  obtain rfl := Option.some.inj (ht.symm.trans ht2)
  have hlt : 0 < W.heap.size := by
    unfold World.var? at hv2
    rw [tabNamed] at hv2
    simp only [Option.bind_some] at hv2
    split at hv2
    · rename_i he; exact lt_of_heap he
    · cases hv2
  refine ⟨hlt, hlt, ?_⟩
  unfold Lib.TabIs
  have hd : DataW.trod _ Tryd.prog W 0 _ false f2 111 cs2.toList = some (Lib.tabData .u64 Lib.pow10Tab, p2) := hd2
  rw [hv2, ← Lib.cells_of_tab Tryd.underlying111 Tryd.underlying104 (by kernel_rfl) (by kernel_rfl) hd]

end Go.Proofs.YtpmkjeihbddfpabDoor

