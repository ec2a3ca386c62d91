/- quote: ScanLiteral. -/
import Derived.Test.YtpklpfncohdlhaaDoorLitS
namespace Go.Proofs.YtpklpfncohdlhaaDoor
open Go.RowKit

theorem Col.base {B B' g bu ba size : Nat} {l : List UInt8} {w : World} (h : Col B g bu ba size l w) (hB : B' ≤ B) : Col B' g bu ba size l w :=
  ⟨Nat.le_trans hB h.bg, Nat.le_trans hB h.bbu, Nat.le_trans hB h.bba, h.gu, h.ga, h.ua, h.row, h.used, h.all⟩

set_option maxRecDepth 100000 in
set_option maxHeartbeats 4000000 in
theorem scanLiteral_any (B c : Nat) (A : Option Addr) (l : List UInt8) (x : Int) (h1 : -9223372036854775808 ≤ x) (h2 : x ≤ 9223372036854775807) (hl : l.length ≤ 1000000) (w : World) (henv : Env w) (hA : ByAt B w A c l) :
    Calls Tryd.prog 44 #[.slice A l.length c, .int .i64 x] w fun e w' => SPost (scanL l x) w.heap.size e w' ∧ Below w.heap.size w w' := by
  have L := Lib.hid (literalF_any w.heap.size c A l x h1 h2 (by omega) _ (fun w1 hb => henv.below ((below_al w (.cells #[.slice A l.length c, .int .i64 x] 89)).trans hb)) (cur_new hA x))
  have HA := Lib.hid hA.here
  clear hA henv h1 h2
  obtain ⟨o, ho⟩ : ∃ o, scanL l x = o := ⟨_, rfl⟩
  rw [ho]
  have HO := Lib.hid ho
  clear ho
  go_enter Tryd.func44, Tryd.ntmps44
  go_wp2_with fail
  refine L.out.mono ?_
  rintro e w1 ⟨hq, hb⟩
  have hB := (below_al w (.cells #[.slice A l.length c, .int .i64 x] 89)).trans hb
  unfold LPost at hq
  rcases hq with ⟨q, n, hqn, hs, rfl, hc⟩ | ⟨hn, rfl⟩
  · have e1 : ((l.take (q + n)).drop q) = (l.drop q).take n := by rw [List.drop_take]; congr 1; omega
    have hBy := (HA.out.below hB).cut (lo := q) (hi := q + n) (by omega) (by omega)
    rw [e1] at hBy
    have hlen : ((l.drop q).take n).length = n := by rw [List.length_take, List.length_drop]; omega
    have HR := Lib.hid (show o = some ((l.drop q).take n, q + n) by rw [← HO.out, hs])
    have hnl : n ≤ 1000000 := by omega
    have c1 := hc.c1
    have hsz := hc.lt
    have HB := Lib.hid hB
    have hbz := hB.size
    obtain ⟨P, hP⟩ : ∃ P, (l.drop q).take n = P := ⟨_, rfl⟩
    rw [hP] at hBy hlen HR
    generalize q + n = m at *
    have CO : ∀ W, Below w1.heap.size w1 W → Calls Tryd.prog 56 #[.int .i64 (n : Int)] W fun e w' =>
      ∃ g bu ba, e = .returned (.func (Fn.func 66) #[] #[.pointer (some ⟨bu, 0, none⟩), .pointer (some ⟨ba, 0, none⟩)]) ∧ Hid (Col w1.heap.size g bu ba n [] w') ∧ Below w1.heap.size w1 w' := fun W hW => by
      refine (collector_any n (by omega) W).mono ?_
      rintro e w' ⟨g, bu, ba, a1, a2, a3⟩
      exact ⟨g, bu, ba, a1, a2.base hW.size, below_next hW a3⟩
    have PU : ∀ g bu ba W, Hid (Col w1.heap.size g bu ba n [] W) → Below w1.heap.size w1 W → Calls Tryd.prog 66 #[.slice (offA A c q) n (c - q), .pointer (some ⟨bu, 0, none⟩), .pointer (some ⟨ba, 0, none⟩)] W fun e w' =>
      e = .returned (.slice (some ⟨g, 0, none⟩) n n) ∧ Hid (w'.ownsRow w.heap.size 5 1 (.slice (some ⟨g, 0, none⟩) n n) n (flatL encB P)) ∧ Below w1.heap.size w1 w' := fun g bu ba W hC hW => by
      refine (put_at w1.heap.size g bu ba n [] P _ (offA A c q) (c - q) n n hlen (by simp) (by omega) (by omega) W hC.out (hBy.grow hW)).mono ?_
      rintro e w' ⟨a1, a2, a3⟩
      refine ⟨a1, ?_, hW.trans a3⟩
      have := a2.out.own (by omega)
      rw [List.nil_append, hlen] at this
      exact Joins.ownsRow_le this hbz
    have CO := Lib.hid CO
    have PU := Lib.hid PU
    have HL := Lib.hid hlen
    clear hBy hs hc hb hB L HA HO e1 hlen hP hbz
    go_wp2_with fail
    go_region_with (first
      | (go_at_call 56; refine (CO.out _ (by repeat (first | assumption | exact Below.refl _ _ | refine Below.drew ?_ ))).mono ?_; rintro e w3 ⟨g, bu, ba, rfl, hC3, hb3⟩; have c3 : w3.cell? ⟨w.heap.size, 1, none⟩ = some (.int .i64 (m : Int)) := (hb3.cell (p := ⟨w.heap.size, 1, none⟩) hsz).trans c1)
      | (go_at_call 66; refine (PU.out g bu ba _ (by first | exact hC3) (by repeat (first | assumption | exact Below.refl _ _ | refine Below.drew ?_ ))).mono ?_; rintro e w4 ⟨rfl, ho4, hb4⟩; have c4 : w4.cell? ⟨w.heap.size, 1, none⟩ = some (.int .i64 (m : Int)) := (hb4.cell (p := ⟨w.heap.size, 1, none⟩) hsz).trans c1))
    all_goals
      have HB4 := Lib.hid (HB.out.trans (hb4.mono HB.out.size))
      clear hb4 hb3
      go_wp2_with fail
      refine bodyPost_ret (v := .tuple #[.slice (some ⟨g, 0, none⟩) n n, .int .i64 (m : Int), .bool true]) (by simp [results, Tryd.results44, go_sem]) rfl ⟨?_, HB4.out⟩
      exact Or.inl ⟨P, m, g, n, HR.out, by rw [HL.out], by rw [HL.out]; exact ho4.out⟩
  · have HR := Lib.hid (show o = none by rw [← HO.out, hn])
    clear hn
    go_wp2_with fail
    refine bodyPost_ret (v := .tuple #[.slice none 0 0, .int .i64 0, .bool false]) (by simp [results, Tryd.results44, go_sem]) rfl ⟨?_, hB⟩
    exact Or.inr ⟨HR.out, rfl⟩
end Go.Proofs.YtpklpfncohdlhaaDoor
