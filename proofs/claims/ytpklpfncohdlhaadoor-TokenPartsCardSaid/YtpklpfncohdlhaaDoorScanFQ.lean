/- quote: ScanQuoted. -/
import Derived.Test.YtpklpfncohdlhaaDoorScanQ
import Derived.Test.YtpklpfncohdlhaaDoorIdx
import Derived.Deep.RegionWith
namespace Go.Proofs.YtpklpfncohdlhaaDoor
open Go.RowKit

/-- What ScanQuoted reads: the bytes, the offset behind the form. -/
def scanQ (l : List UInt8) (x : Int) : Option (List UInt8 × Nat) :=
  if 0 ≤ x ∧ l[x.toNat]? = some 34 then (qScan (l.drop (x.toNat + 1))).map (fun t => (t.1, x.toNat + 1 + t.2 + 1)) else none

/-- What a function that scans answers. -/
def SPost (o : Option (List UInt8 × Nat)) (base : Nat) (e : Ending) (w' : World) : Prop :=
  (∃ (P : List UInt8) (m : Nat) (g c' : Nat), o = some (P, m) ∧ e = .returned (.tuple #[.slice (some ⟨g, 0, none⟩) P.length c', .int .i64 (m : Int), .bool true]) ∧ w'.ownsRow base 5 1 (.slice (some ⟨g, 0, none⟩) P.length c') P.length (flatL encB P)) ∨
  (o = none ∧ e = .returned (.tuple #[.slice none 0 0, .int .i64 0, .bool false]))

theorem scanQ_no {l : List UInt8} {x : Int} (h : x < 0 ∨ l[x.toNat]? ≠ some 34) : scanQ l x = none := by
  unfold scanQ
  rw [if_neg]
  rintro ⟨h1, h2⟩
  rcases h with h | h
  · omega
  · exact h h2
theorem scanQ_yes {l : List UInt8} {k : Nat} (h : l[k]? = some 34) : scanQ l (k : Int) = (qScan (l.drop (k + 1))).map (fun t => (t.1, k + 1 + t.2 + 1)) := by
  unfold scanQ
  rw [if_pos ⟨by omega, h⟩]
  rfl

set_option maxRecDepth 100000 in
set_option maxHeartbeats 1000000 in
/-- No form begins there. -/
theorem scanQ_fail (B c : Nat) (A : Option Addr) (l : List UInt8) (x : Int) (w : World)
    (hQ : ∀ w1, Cur w.heap.size A c l x w1 → Calls Tryd.prog 59 #[.pointer (some ⟨w.heap.size, 0, none⟩)] w1 fun e w' => e = .returned (.tuple #[.slice none 0 0, .bool false]) ∧ Below w.heap.size w1 w') (hA : ByAt B w A c l) :
    Calls Tryd.prog 43 #[.slice A l.length c, .int .i64 x] w fun e w' => e = .returned (.tuple #[.slice none 0 0, .int .i64 0, .bool false]) ∧ Below w.heap.size w w' := by
  have Q := Lib.hid (hQ _ (cur_new hA x))
  clear hQ hA
  go_enter Tryd.func43, Tryd.ntmps43
  go_wp2_with fail
  refine Q.out.mono ?_
  rintro e w1 ⟨rfl, hb⟩
  have hB := (below_al w (.cells #[.slice A l.length c, .int .i64 x] 89)).trans hb
  go_wp2_with fail
  exact bodyPost_ret (v := .tuple #[.slice none 0 0, .int .i64 0, .bool false]) (by simp [results, Tryd.results43, go_sem]) rfl ⟨rfl, hB⟩

set_option maxRecDepth 100000 in
set_option maxHeartbeats 2000000 in
theorem scanQuoted_mark (B c : Nat) (A : Option Addr) (l : List UInt8) (k : Nat) (hk : l[k]? = some 34) (hl : l.length ≤ 1000000) (w : World) (hA : ByAt B w A c l) :
    Calls Tryd.prog 43 #[.slice A l.length c, .int .i64 (k : Int)] w fun e w' => SPost (scanQ l (k : Int)) w.heap.size e w' ∧ Below w.heap.size w w' := by
  have hkl : k < l.length := (List.getElem?_eq_some_iff.1 hk).1
  have Q := Lib.hid (quotedF_mark w.heap.size c A l k hk (by omega) _ (cur_new hA (k : Int)))
  have PL := Lib.hid (fun B A c n l hn hl hw w1 hA => plain_any B A c n l hn hl hw w1 hA)
  rw [scanQ_yes hk]
  have HA := Lib.hid hA.here
  clear hA hk
  obtain ⟨o, ho⟩ : ∃ o, (qScan (l.drop (k + 1))).map (fun t => (t.1, k + 1 + t.2 + 1)) = o := ⟨_, rfl⟩
  rw [ho]
  have HO := Lib.hid ho
  clear ho
  go_enter Tryd.func43, Tryd.ntmps43
  go_wp2_with fail
  refine Q.out.mono ?_
  rintro e w1 ⟨hq, hb⟩
  have hB := (below_al w (.cells #[.slice A l.length c, .int .i64 (k : Int)] 89)).trans hb
  unfold QPost at hq
  rcases hq with ⟨P, n, hs, rfl, hc⟩ | ⟨hn, rfl⟩
  · obtain ⟨a1, a2, a3, _⟩ := q_plain _ _ _ hs
    rw [List.length_drop] at a1
    have e1 : ((l.take (k + 1 + n)).drop (k + 1)) = (l.drop (k + 1)).take n := by rw [List.drop_take]; congr 1; omega
    have hBy := (HA.out.below hB).cut (lo := k + 1) (hi := k + 1 + n) (by omega) (by omega)
    rw [e1] at hBy
    have hlen : ((l.drop (k + 1)).take n).length = n := by rw [List.length_take, List.length_drop]; omega
    have PL2 : ∀ W, Below w1.heap.size w1 W → Calls Tryd.prog 60 #[.slice (offA A c (k + 1)) n (c - (k + 1))] W fun e w' => ∃ g c', e = .returned (.slice (some ⟨g, 0, none⟩) P.length c') ∧ Hid (w'.ownsRow w.heap.size 5 1 (.slice (some ⟨g, 0, none⟩) P.length c') P.length (flatL encB P)) ∧ Below w1.heap.size w1 w' := fun W hW => by
      have := PL.out _ (offA A c (k + 1)) (c - (k + 1)) n _ hlen (by omega) a3 W (hBy.grow hW)
      rw [a2] at this
      refine this.mono ?_
      rintro e w' ⟨g, c', h1, h2, h3⟩
      exact ⟨g, c', h1, Joins.ownsRow_le h2 (by have := hB.size; have := hW.size; omega), below_next hW h3⟩
    have PL2 := Lib.hid PL2
    have c1 := hc.c1
    have hsz := hc.lt
    have HR := Lib.hid (show o = some (P, k + 1 + n + 1) by rw [← HO.out, hs]; rfl)
    generalize k + 1 + n + 1 = m at *
    have HB := Lib.hid hB
    clear a1 a2 a3 e1 hBy hlen hs hc hb hB PL Q HA HO
    go_wp2_with fail
    go_region_with (go_at_call 60; refine (PL2.out _ (by repeat (first | assumption | exact Below.refl _ _ | refine Below.drew ?_ ))).mono ?_; rintro e w3 ⟨g, c', rfl, ho, hb3⟩; have c3 : w3.cell? ⟨w.heap.size, 1, none⟩ = some (.int .i64 (m : Int)) := (hb3.cell (p := ⟨w.heap.size, 1, none⟩) hsz).trans c1)
    all_goals
      have HB3 := Lib.hid (HB.out.trans (hb3.mono HB.out.size))
      clear hb3
      go_wp2_with fail
      refine bodyPost_ret (v := .tuple #[.slice (some ⟨g, 0, none⟩) P.length c', .int .i64 (m : Int), .bool true]) (by simp [results, Tryd.results43, go_sem]) rfl ⟨?_, HB3.out⟩
      exact Or.inl ⟨P, m, g, c', HR.out, rfl, ho.out⟩
  · have HR := Lib.hid (show o = none by rw [← HO.out, hn]; rfl)
    clear hn
    go_wp2_with fail
    refine bodyPost_ret (v := .tuple #[.slice none 0 0, .int .i64 0, .bool false]) (by simp [results, Tryd.results43, go_sem]) rfl ⟨?_, hB⟩
    exact Or.inr ⟨HR.out, rfl⟩

theorem scanQuoted_any (B c : Nat) (A : Option Addr) (l : List UInt8) (x : Int) (h1 : -9223372036854775808 ≤ x) (h2 : x ≤ 9223372036854775807) (hl : l.length ≤ 1000000) (w : World) (hA : ByAt B w A c l) :
    Calls Tryd.prog 43 #[.slice A l.length c, .int .i64 x] w fun e w' => SPost (scanQ l x) w.heap.size e w' ∧ Below w.heap.size w w' := by
  by_cases hin : 0 ≤ x ∧ x ≤ l.length
  · obtain ⟨k, rfl⟩ : ∃ k : Nat, x = k := ⟨x.toNat, by omega⟩
    by_cases h34 : l[k]? = some 34
    · exact scanQuoted_mark B c A l k h34 hl w hA
    · rw [scanQ_no (Or.inr h34)]
      exact (scanQ_fail B c A l k w (fun w1 hc => quotedF_no w.heap.size c A l k (by omega) h34 (by omega) w1 hc) hA).mono fun e w' ⟨he, hb⟩ => ⟨Or.inr ⟨rfl, he⟩, hb⟩
  · have hx : x < 0 ∨ (l.length : Int) < x := by omega
    rw [scanQ_no (by rcases hx with h | h; exact Or.inl h; exact Or.inr (by rw [List.getElem?_eq_none (by omega)]; simp))]
    exact (scanQ_fail B c A l x w (fun w1 hc => quotedF_out w.heap.size c A l x h1 h2 hx (by omega) w1 hc) hA).mono fun e w' ⟨he, hb⟩ => ⟨Or.inr ⟨rfl, he⟩, hb⟩
end Go.Proofs.YtpklpfncohdlhaaDoor
