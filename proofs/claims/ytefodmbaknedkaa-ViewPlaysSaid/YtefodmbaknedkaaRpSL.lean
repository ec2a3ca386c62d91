/- The reference of layer 9: SameList, of lists that are the same. -/
import Derived.Test.YtefodmbaknedkaaRsSameR
import Derived.Test.YtefodmbaknedkaaVc
import Derived.Deep.RegionWith
namespace Go.Proofs.Ytefodmbaknedkaa
open Go.RowKit

set_option maxRecDepth 100000 in
set_option maxHeartbeats 4000000 in
theorem sameList_t (xs ys : List RX) (hxy : xs.map (fun x => x.r) = ys.map (fun x => x.r)) (A1 A2 : Option Addr) (c1 c2 n m : Nat) (hn : xs.length = n) (hm : ys.length = m) (hl : n ≤ 1000000) (w : World) (h1 : RsAt w A1 xs) (h2 : RsAt w A2 ys) :
    Calls Try.prog 13 #[.slice A1 n c1, .slice A2 m c2] w fun e w' => e = .returned (.bool true) ∧ Below w.heap.size w w' := by
  obtain rfl : n = m := by
    have := congrArg List.length hxy
    simp only [List.length_map] at this
    omega
  have HN := Lib.hid hn
  have HM := Lib.hid hm
  have H1 := Lib.hid h1
  have H2 := Lib.hid h2
  have HXY := Lib.hid (fun (k : Nat) (h : k < xs.length) (h' : k < ys.length) => show ys[k].r = xs[k].r by
    have := congrArg (fun l => l[k]?) hxy
    simp only [List.getElem?_map, List.getElem?_eq_getElem h, List.getElem?_eq_getElem h', Option.map_some, Option.some.injEq] at this
    exact this.symm)
  clear hn hm h1 h2 hxy
  go_enter Try.func13, Try.ntmps13
  go_wp2_with fail
  go_loopw [5] (fun i wr => ∃ k : Nat, k ≤ n ∧ i = .int .i64 (k : Int) ∧ Hid (Below w.heap.size w wr)) (fun i _ => n - (intOf i).toNat)
  case atStart => exact ⟨0, Nat.zero_le _, rfl, Lib.hid (Below.refl _ _)⟩
  case round =>
    obtain ⟨k, hk, rfl, hB⟩ := hrel
    by_cases hlt : k < n
    · have hlx : k < xs.length := by rw [HN.out]; exact hlt
      have hly : k < ys.length := by rw [HM.out]; exact hlt
      obtain ⟨b, off, rfl, -, c0, c1, c2, c3, c4, c5, c6, c7, c8, c9⟩ := (H1.out.below hB.out).at hlx
      obtain ⟨b', off', rfl, -, d0, d1, d2, d3, d4, d5, d6, d7, d8, d9⟩ := (H2.out.below hB.out).at hly
      have hby1 := (H1.out.below hB.out).each _ (List.getElem_mem hlx)
      have hby2 := (H2.out.below hB.out).each _ (List.getElem_mem hly)
      have he := HXY.out k hlx hly
      rw [he] at d0 d1 d2 d3 d4 d5 d6 d7 d8 d9 hby2
      clear he
      have hk0 : (0 : Int) ≤ (k : Int) := by omega
      have hk1 : (k : Int) < (n : Int) := by omega
      have SM := Lib.hid (fun W (hW : Below wr.heap.size wr W) => rsame9_any xs[k].r xs[k].r xs[k].A ys[k].A xs[k].k ys[k].k W (hby1.below hW).here (hby2.below hW).here)
      rw [rsSame_refl] at SM
      unfold rsV at SM
      clear hby1 hby2
      generalize ByteArray.mk xs[k].r.tag.toArray = v2 at *
      generalize ByteArray.mk xs[k].r.text.toArray = v4 at *
      generalize xs[k].r.kind = v0 at *
      generalize (xs[k].r.n : Int) = v1 at *
      generalize xs[k].r.status = v3 at *
      generalize xs[k].r.items = v5 at *
      generalize (xs[k].r.flags : Int) = v6 at *
      generalize (xs[k].r.uid : Int) = v7 at *
      generalize (xs[k].r.size : Int) = v8 at *
      generalize xs[k].r.body.length = v9 at *
      generalize xs[k].A = v10 at *
      generalize xs[k].k = v11 at *
      generalize ys[k].A = u10 at *
      generalize ys[k].k = u11 at *
      go_wp2_with fail
      go_region_with (first
        | (go_at_call 27; refine (SM.out _ (by repeat (first | assumption | exact Below.refl _ _ | refine Below.drew ?_ ))).mono ?_; rintro e w3 ⟨rfl, hb3⟩))
      all_goals
        have HB3 := Lib.hid (below_next (below_next hB.out (by repeat (first | exact Below.refl _ _ | refine Below.drew ?_ ))) hb3)
        clear hb3 SM
        go_wp2_with fail
        go_roundw
        case rel => exact ⟨k + 1, by omega, by go_num, HB3⟩
        case measure => simp [intOf]; omega
    · obtain rfl : k = n := by omega
      go_wp2_with fail
      go_ret
      exact ⟨rfl, hB.out⟩
end Go.Proofs.Ytefodmbaknedkaa
