/- Contracts of the document's disk: Restart, Load, New(0). -/
import Derived.Test.YtbmabcddciibfaaDiskRFlush
namespace Go.Proofs.Ytbmabcddciibfaa
namespace Dsk
open Go.RowKit
set_option linter.unusedVariables false
/-- The last stores of Restart. -/
theorem Rk.restarted {w : World} {r : Ro} {st : Dm.St} (h : Rk w r st) :
    Rk (((w.setCell ⟨r.p, 1, none⟩ (.slice none 0 0)).setCell ⟨r.p, 2, none⟩ (.int .i64 (-1))).setCell ⟨r.p, 3, none⟩ (.bool false)) { r with pv := .slice none 0 0 } ⟨st.S, [], -1, false⟩ ∧
    RStep r { r with pv := .slice none 0 0 } w (((w.setCell ⟨r.p, 1, none⟩ (.slice none 0 0)).setCell ⟨r.p, 2, none⟩ (.int .i64 (-1))).setCell ⟨r.p, 3, none⟩ (.bool false)) := by
  have h1 := h.setNone
  have h2 := h1.setFuse (-1) (by decide) (by decide)
  have h3 := h2.setDead false
  refine ⟨h3, ?_⟩
  refine (rstep_head r { r with pv := .slice none 0 0 } w 1 _ ?_ rfl).trans ((rstep_head { r with pv := .slice none 0 0 } { r with pv := .slice none 0 0 } _ 2 _ (fun _ h => h) rfl).trans (rstep_head { r with pv := .slice none 0 0 } { r with pv := .slice none 0 0 } _ 3 _ (fun _ h => h) rfl))
  rintro j (hj | hj | hj)
  · exact .inl hj
  · exact .inr (.inl hj)
  · cases hj

end Dsk
end Go.Proofs.Ytbmabcddciibfaa