/- The laws of layer 13: play. -/
import Derived.Test.YtcfpdflaabfdkaaL13D
import Derived.Test.YtcfpdflaabfdkaaL13Z
namespace Go.Proofs.Ytcfpdflaabfdkaa
open Go.RowKit

theorem nextM_len (L : List MI) (o : OI) : (nextM L o).length ≤ L.length + 1 := by
  unfold nextM
  split
  · unfold putM
    split
    · exact Nat.le_succ _
    · split
      · exact Nat.le_succ _
      · simp
  · split
    · rcases fdI_get L o.m.u with ⟨hd, -⟩ | ⟨k, hk, hd, -, -⟩
      · rw [flM_none _ _ hd]; exact Nat.le_succ _
      · rw [flM_found _ _ hk hd]
        cases changeO L[k].f o.mode o.m.f with
        | none => exact Nat.le_succ _
        | some x => simp
    · split
      · exact Nat.le_succ_of_le (List.length_filter_le _ _)
      · exact Nat.le_succ _
theorem play_any (B g n : Nat) (S : Nat → Prop) (A : Option Addr) (c : Nat) (L : List MI) (o : OI) (w : World) (h : PlS B g n S A L w) (hl : L.length ≤ 100000) (hok : MIok o.m) (hmo : -9223372036854775808 ≤ o.mode ∧ o.mode ≤ 9223372036854775807) (hb : ByAt B w o.m.A o.m.k o.m.b) :
    Calls Try.prog 13 #[.pointer (some ⟨g, 0, none⟩), .slice A L.length c, opV o] w fun e w' => ∃ S' A' c', e = .returned (.tuple #[.slice A' (nextM L o).length c', .bool true]) ∧ PlS B g n S' A' (nextM L o) w' ∧ More S S' w ∧ KeptO S w w' ∧ Fr A A' w := by
  unfold nextM
  by_cases k0 : o.kind = 0
  · rw [if_pos k0]
    exact play_put B g n S A c L o w h hl hok.u hok.f hb k0
  · rw [if_neg k0]
    by_cases k1 : o.kind = 1
    · rw [if_pos k1]
      exact play_flags B g n S A c L o w h hl hok.u hok.f hmo k1
    · rw [if_neg k1]
      by_cases k2 : o.kind = 2
      · rw [if_pos k2]
        exact play_rem B g n S A c L o w h hl hok.u k2
      · rw [if_neg k2]
        refine (play_get B g n S A c L o w h hl hok.u k0 k1 k2).mono ?_
        rintro e w' ⟨S', rfl, h1, h2, h3⟩
        exact ⟨S', A, c, rfl, h1, h2, h3, .inl rfl⟩
section
variable {B g n : Nat} {S S' : Nat → Prop} {A : Option Addr} {L : List MI} {w w2 : World}
theorem PlS.below (h : PlS B g n S A L w) (hb : Below w.heap.size w w2) : PlS B g n S A L w2 := h.same (More.refl S w) (KeptO.of_below hb) (h.tb.below hb)
end
end Go.Proofs.Ytcfpdflaabfdkaa
