/- All, of the program and of the reference. -/
import Derived.Test.YtpoejnajnaolpaaGreatDoorGj
import Derived.Test.YtpoejnajnaolpaaGreatDoorRsRefV4
import Derived.Test.YtpoejnajnaolpaaGreatDoorRsRefF
import Derived.Test.YtpoejnajnaolpaaGreatDoorRsFew
import Derived.Test.YtpoejnajnaolpaaGreatDoorGa
namespace Go.Proofs.YtpoejnajnaolpaaGreatDoor
open Go.RowKit

/-- The forms of the valid ones, in order. -/
def rsAllF (xs : List RX) : List UInt8 := xs.flatMap fun x => if rsOk x.r = true then rsForm x.r else []
theorem rsAllF_snoc {xs : List RX} {k : Nat} (h : k < xs.length) : rsAllF (xs.take (k + 1)) = rsAllF (xs.take k) ++ if rsOk xs[k].r = true then rsForm xs[k].r else [] := by
  unfold rsAllF
  rw [List.take_succ_eq_append_getElem h, List.flatMap_append]
  simp only [List.flatMap_cons, List.flatMap_nil, List.append_nil]
theorem rsAllF_app (a b : List RX) : rsAllF (a ++ b) = rsAllF a ++ rsAllF b := by simp [rsAllF]
/-- What All returns. -/
def AllPost (xs : List RX) (w : World) (e : Ending) (w' : World) : Prop := ∃ A c, e = .returned (.slice A (rsAllF xs).length c) ∧ ByAt w'.heap.size w' A c (rsAllF xs) ∧ Below w.heap.size w w'
theorem rsAllF_len {xs : List RX} (h : ∀ x ∈ xs, RIok x.r ∧ RIsm x.r) : (rsAllF xs).length ≤ 60002 * xs.length := by
  induction xs with
  | nil => simp [rsAllF]
  | cons x xs ih =>
    have h1 := ih (fun y hy => h y (by simp [hy]))
    have h2 := h x (by simp)
    have h3 := form_len x.r h2.1 h2.2
    have e : rsAllF (x :: xs) = (if rsOk x.r = true then rsForm x.r else []) ++ rsAllF xs := rfl
    rw [e, List.length_append, List.length_cons]
    split
    · omega
    · simp only [List.length_nil]; omega

set_option maxRecDepth 100000 in
set_option maxHeartbeats 4000000 in
theorem pall_any (xs : List RX) (A : Option Addr) (c n : Nat) (hn : xs.length = n) (hl : n ≤ 60) (hok : ∀ x ∈ xs, RIok x.r ∧ RIsm x.r) (w : World) (henv : Env w) (hS : RsAt w A xs) :
    Calls Tryz.prog 17 #[.slice A n c] w (AllPost xs w) := by
  obtain ⟨i0, hi, hz0, hz1, hz2⟩ := info_parts infoByte
  have HS := Lib.hid hS
  have HN := Lib.hid hn
  have HO := Lib.hid hok
  have HE := Lib.hid (fun W (h : Below w.heap.size w W) => henv.below h)
  clear hS hn hok henv
  go_enter Tryz.func17, Tryz.ntmps17
  go_wp2_with fail
  go_loopw [3, 10] (fun v i wr => ∃ (k m : Nat) (Av : Option Addr) (cv : Nat), k ≤ n ∧ i = .int .i64 (k : Int) ∧ v = .slice Av m cv ∧ m ≤ 60002 * k ∧ Hid (m = (rsAllF (xs.take k)).length) ∧ Hid (wr.ownsRow w.heap.size 5 1 (.slice Av m cv) m (flatL encB (rsAllF (xs.take k)))) ∧ Hid (Below w.heap.size w wr)) (fun _ i _ => n - (intOf i).toNat)
  case atStart => exact ⟨0, 0, none, 0, Nat.zero_le _, rfl, rfl, by omega, Lib.hid rfl, Lib.hid (World.ownsRow_nil _ _ _ _), Lib.hid (Below.refl _ _)⟩
  case round =>
    obtain ⟨k, m, Av, cv, hk, rfl, rfl, hm9, hmm, hO, hB⟩ := hrel
    by_cases hlt : k < n
    · have hlx : k < xs.length := by rw [HN.out]; exact hlt
      obtain ⟨b, off, rfl, -, c0, c1, c2, c3, c4, c5, c6, c7, c8, c9⟩ := (HS.out.below hB.out).at hlx
      have hk0 : (0 : Int) ≤ (k : Int) := by omega
      have hk1 : (k : Int) < (n : Int) := by omega
      have hx := HO.out _ (List.getElem_mem hlx)
      have hby := (HS.out.below hB.out).each _ (List.getElem_mem hlx)
      have BXN := Lib.hid (below_al wr (.cells (encRx xs[k]).toArray 27))
      have PR := Lib.hid (print9_any xs[k].r hx.1 hx.2 xs[k].A xs[k].k (wr.alloc (.cells (encRx xs[k]).toArray 27)) (HE.out _ (below_next hB.out BXN.out)) ((hby.below BXN.out).here))
      have HST := Lib.hid (rsAllF_snoc hlx)
      have HFL := Lib.hid (form_len xs[k].r hx.1 hx.2)
      unfold rsV encRx at PR
      unfold encRx at BXN
      unfold PnPost at PR
      clear hx hby
      generalize rsForm xs[k].r = Fm at *
      generalize rsOk xs[k].r = ok at *
      generalize ByteArray.mk xs[k].r.tag.toArray = v2 at *
      generalize ByteArray.mk xs[k].r.text.toArray = v4 at *
      generalize xs[k].r.kind = v0 at *
      generalize (xs[k].r.n : Int) = v1 at *
      generalize xs[k].r.status = v3 at *
      generalize xs[k].r.items = v5 at *
      generalize (xs[k].r.flags : Int) = v6 at *
      generalize (xs[k].r.uid : Int) = v7 at *
      generalize (xs[k].r.size : Int) = v8 at *
      generalize xs[k].r.body.length = v9 at *
      generalize xs[k].A = v10 at *
      generalize xs[k].k = v11 at *
      go_wp2_with fail
      refine PR.out.mono ?_
      intro e w1 hp
      obtain ⟨A2, c2', q, l, rfl, hlq, hl9, hy, hfl, hb1⟩ : ∃ A2 c2' q, ∃ l : List UInt8, e = .returned (.tuple #[.slice A2 l.length c2', .bool q]) ∧ l = (if ok = true then Fm else []) ∧ l.length ≤ 60002 ∧ ByAt w1.heap.size w1 A2 c2' l ∧ True ∧ Below wr.heap.size wr w1 := by
        rcases hp with ⟨h1, A2, c2', he, hy, hb⟩ | ⟨h1, he, hb⟩
        · exact ⟨A2, c2', true, _, he, by rw [if_pos h1], HFL.out, hy, trivial, below_next BXN.out hb⟩
        · exact ⟨none, 0, false, [], he, by rw [if_neg (by rw [h1]; decide)], by simp, ByAt.nil _ _ _ _, trivial, below_next BXN.out hb⟩
      rw [← hlq] at HST
      obtain ⟨q9, hq9⟩ : ∃ q, l.length = q := ⟨_, rfl⟩
      have HQ := Lib.hid hq9
      have HB1 := Lib.hid (below_next hB.out hb1)
      have HO1 := Lib.hid (own_below hO.out hb1)
      have HBY := Lib.hid hy
      rw [hq9] at hl9 ⊢
      have h63 : m + l.length ≤ maxLen := by unfold maxLen; omega
      have hbyt : (m + l.length) * 1 ≤ 140737488355328 := by omega
      have H63 := Lib.hid h63
      have HBYT := Lib.hid hbyt
      have HSZ := Lib.hid HB1.out.size
      clear hp hlq hy hfl hb1 PR HFL BXN h63 hbyt c0 c1 c2 c3 c4 c5 c6 c7 c8 c9 hq9
      go_wp2_with (at_builtin; refine wpList_append_sl _ rfl _ _ 22 rfl w.heap.size 5 i0 _ 1 Tryz.underlying22 hi hz0 hz1 hz2 rfl (by decide) _ m _ rfl HO1.out A2 l c2' (by rw [HQ.out]; rfl) encB_len HBY.out.sl (one_flatB l) H63.out HBYT.out HSZ.out ?_; intro vv w3 hown3 hg3; rw [HQ.out] at hown3; obtain ⟨A3, c3, rfl⟩ := own_any hown3; have HB3 := Lib.hid (HB1.out.grown hg3 HSZ.out (fun kk hkk => (HO1.out.lt kk hkk).1)); have HO3 := Lib.hid hown3; clear hown3 hg3)
      have HMQ := Lib.hid (show m + q9 = (rsAllF (xs.take (k + 1))).length by rw [HST.out, List.length_append, ← hmm.out, HQ.out])
      have HO4 := Lib.hid (show w3.ownsRow w.heap.size 5 1 (.slice A3 (m + q9) c3) (m + q9) (flatL encB (rsAllF (xs.take (k + 1)))) by rw [HST.out, flatL_append]; exact HO3.out)
      go_roundw
      case rel => exact ⟨k + 1, m + q9, A3, c3, by omega, by go_num, rfl, by omega, HMQ, HO4, HB3⟩
      case measure => simp [intOf]; omega
    · obtain rfl : k = n := by omega
      have ht : xs.take k = xs := List.take_of_length_le (by rw [HN.out]; exact Nat.le_refl _)
      have HMM : Hid (m = (rsAllF xs).length) := Lib.hid (by have := hmm.out; rwa [ht] at this)
      have HBY : Hid (ByAt wr.heap.size wr Av cv (rsAllF xs)) := Lib.hid (by
        have := hO.out
        rw [ht, HMM.out] at this
        exact ByAt.of_own this)
      clear ht hO hmm
      go_wp2_with fail
      go_ret
      exact ⟨Av, cv, by rw [← HMM.out]; rfl, HBY.out, hB.out⟩

theorem rs_cells {w : World} {b off : Nat} {xs : List RX} (h : RsAt w (some ⟨b, off, none⟩) xs) {j : Nat} (hj : j < xs.length) : w.cell? ⟨b, off + j * 10, none⟩ = some (.int .i64 xs[j].r.kind) ∧ w.cell? ⟨b, off + j * 10 + 1, none⟩ = some (.int .u32 (xs[j].r.n : Int)) ∧ w.cell? ⟨b, off + j * 10 + 2, none⟩ = some (.string ⟨xs[j].r.tag.toArray⟩) ∧ w.cell? ⟨b, off + j * 10 + 3, none⟩ = some (.int .i64 xs[j].r.status) ∧ w.cell? ⟨b, off + j * 10 + 4, none⟩ = some (.string ⟨xs[j].r.text.toArray⟩) ∧ w.cell? ⟨b, off + j * 10 + 5, none⟩ = some (.int .i64 xs[j].r.items) ∧ w.cell? ⟨b, off + j * 10 + 6, none⟩ = some (.int .u8 (xs[j].r.flags : Int)) ∧ w.cell? ⟨b, off + j * 10 + 7, none⟩ = some (.int .u32 (xs[j].r.uid : Int)) ∧ w.cell? ⟨b, off + j * 10 + 8, none⟩ = some (.int .u32 (xs[j].r.size : Int)) ∧ w.cell? ⟨b, off + j * 10 + 9, none⟩ = some (.slice xs[j].A xs[j].r.body.length xs[j].k) := by
  obtain ⟨b', off', hA', _, h⟩ := h.at hj
  have h1 := Option.some.inj hA'
  injection h1 with h2 h3
  rw [h2, h3]
  exact h
theorem strB9 (l : List UInt8) : Lib.strCells ⟨l.toArray⟩ = flatL encB l := by
  rw [Lib.strCells_eq]
  induction l with
  | nil => rfl
  | cons x l ih => exact congrArg (fun t => Value.int .u8 (x.toNat : Int) :: t) ih
end Go.Proofs.YtpoejnajnaolpaaGreatDoor
