/- strings.Join at a row of the call's own. -/
import Derived.Test.YtpgfnlhfciacoaaGreatDoorGp
import Derived.Test.YtpgfnlhfciacoaaGreatDoorGa
import Derived.Shelf.Strings.OnBuilder
namespace Go.Proofs.YtpgfnlhfciacoaaGreatDoor
open Go.RowKit Go.Maps Go.Shelf

theorem spL_len : ∀ (ns : List (List UInt8)), (∀ p ∈ ns, p.length ≤ 9000) → (spL ns).length ≤ ns.length * 9001
  | [], _ => by simp [spL_nil]
  | [p], h => by rw [spL_one]; have := h p (by simp); simp; omega
  | p :: q :: ps, h => by
    have ih := spL_len (q :: ps) (fun x hx => h x (by simp [hx]))
    have := h p (by simp)
    rw [spL_cons]
    simp only [List.length_append, List.length_cons] at ih ⊢
    omega

/-- strings.Join at a row of the call's own. -/
theorem joinS_any (ns : List (List UInt8)) (v : Value) (base : Nat) (w : World) (hO : w.ownsRow base 9 1 v ns.length (flatL encS ns)) (hn : ns.length ≤ 100000) (hs : (spL ns).length ≤ 1000000000) :
    Calls Tryz.prog 167 #[v, .string ⟨#[32]⟩] w fun e w' => e = .returned (.string ⟨(spL ns).toArray⟩) ∧ Below w.heap.size w w' := by
  by_cases hnil : ns = []
  · subst hnil
    obtain ⟨A', c', rfl⟩ := own_any hO
    exact (Any.strings_Join_none Tryz.lays156 Tryz.Builder_Extra_156 A' c' ⟨#[32]⟩ w).mono fun e w' ⟨he, hw⟩ => ⟨he, hw ▸ Below.refl _ _⟩
  · have hpos : 0 < ns.length := List.length_pos_iff.2 hnil
    obtain ⟨xs, hxs⟩ : ∃ xs : List ByteArray, xs = ns.map fun x => ByteArray.mk x.toArray := ⟨_, rfl⟩
    have hxl : xs.length = ns.length := by rw [hxs, List.length_map]
    have hxm : xs.map (fun x => x.data.toList) = ns := by rw [hxs, List.map_map]; simp [Function.comp_def]
    obtain ⟨g, cap, rfl, hg, hcap⟩ : ∃ g cap, v = .slice (some ⟨g, 0, none⟩) ns.length cap ∧ g < w.heap.size ∧ ns.length ≤ cap := by
      rcases hO.2 with ⟨rfl, h⟩ | ⟨g, cap, cur, rfl, h1, h2, h3, h4, h5, h6⟩
      · omega
      · exact ⟨g, cap, rfl, (Array.getElem?_eq_some_iff.1 h2).1, by first | exact h3 | exact h5 | omega⟩
    have J := Any.strings_Join Tryz.lays156 Tryz.Builder_Extra_156 g 0 cap xs ⟨#[32]⟩ w (fun j x hx => by
      have h1 : (flatL encS ns)[j]? = some (.string x) := by
        have h2 : ns[j]? = some x.data.toList := by rw [← hxm, List.getElem?_map, hx]; rfl
        have := flatL_at encS_len ns j _ h2 0 (.string x) (by simp [encS])
        simpa using this
      have := hO.cells (g := g) rfl j _ h1
      rw [Addr.add_lit] at this
      exact this) hg (by omega) (by omega) (by rw [hxm]; show (spL ns).length ≤ _; omega)
    rw [hxl, hxm] at J
    exact J
end Go.Proofs.YtpgfnlhfciacoaaGreatDoor
