import Derived.Test.YtpgfnlhfciacoaaGreatDoorPRef08S
namespace Go.Proofs.YtpgfnlhfciacoaaGreatDoor
theorem sameXs_map {xs ys : List CX} (h : xs.map (fun x => x.c) = ys.map (fun x => x.c)) : sameXs xs ys = true := by
 have hl : xs.length = ys.length := by simpa using congrArg List.length h
 unfold sameXs
 rw [hl, decide_eq_true rfl, Bool.true_and, List.all_eq_true]
 intro p hp
 have : p.1.c = p.2.c := by
  obtain ⟨i, hi, rfl⟩ := List.getElem_of_mem hp
  rw [List.getElem_zip]
  rw [List.length_zip] at hi
  have h1 := List.getElem_of_eq h (i := i) (by rw [List.length_map]; omega)
  simpa using h1
 rw [this]
 exact sameC_refl7 _
end Go.Proofs.YtpgfnlhfciacoaaGreatDoor
