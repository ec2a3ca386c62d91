/- What a row's list gives: what the world owes. -/
import Derived.Test.YthfopimgdikpgaaGreatDoorLiftB
import Derived.Test.YthfopimgdikpgaaGreatDoorGb
namespace Go.Proofs.YthfopimgdikpgaaGreatDoor
open Go.ChangeShapes Go.WideShapes Go.ChangeAt Go.WideMaps Go.WideElems Go.RowKit

/-- WHAT A ROW's LIST GIVES: what the world owes. -/
theorem env_of {L : List (String × DataW Unit)} {W : World} (h : laidMetH Tryz.prog L W) (hp : (L.all fun x => x.2.handleName?.isNone) = true)
    (h1 : L.filter (fun x => x.1 == "internal/strconv.uint64pow10") = [("internal/strconv.uint64pow10", Lib.tabData .u64 Lib.pow10Tab)])
    (h2 : L.filter (fun x => x.1 == "strconv.ErrSyntax") = [("strconv.ErrSyntax", Rows.laid_strconv_ErrSyntax)])
    (h3 : L.filter (fun x => x.1 == "strconv.ErrRange") = [("strconv.ErrRange", Rows.laid_strconv_ErrRange)]) : Env W := by
  rw [MakeChecks.laidMetH_plain _ _ _ hp] at h
  have t1 := h.filter (fun x => x.1 == "internal/strconv.uint64pow10")
  have t2 := h.filter (fun x => x.1 == "strconv.ErrSyntax")
  have t3 := h.filter (fun x => x.1 == "strconv.ErrRange")
  rw [h1] at t1
  rw [h2] at t2
  rw [h3] at t3
  have star : "*errors.errorString" = "*" ++ "errors.errorString" := by decide
  have hrow : ∀ u, Tryz.prog.typeName? 3 u = some "*errors.errorString" → u = 187 := fun u hu =>
    typeName_ptr_named (nm := "errors.errorString") (by rw [← star]; kernel_rfl) (by kernel_rfl) (by decide) u (by rw [← star]; exact hu)
  obtain ⟨a, _, e2, _⟩ := laid_sentinel t2 globSyn (by kernel_rfl) Tryz.underlying140 hrow Tryz.underlying187 Tryz.underlying189 rfl rfl Tryz.underlying9 (by kernel_rfl) (by kernel_rfl)
  obtain ⟨b, _, e3, _⟩ := laid_sentinel t3 globRng (by kernel_rfl) Tryz.underlying140 hrow Tryz.underlying187 Tryz.underlying189 rfl rfl Tryz.underlying9 (by kernel_rfl) (by kernel_rfl)
  exact ⟨Lib.tabIs_of_head globTab (by kernel_rfl) Tryz.underlying191 Tryz.underlying87 (by kernel_rfl) (by kernel_rfl) t1, ⟨_, _, e2⟩, ⟨_, _, e3⟩⟩
end Go.Proofs.YthfopimgdikpgaaGreatDoor
