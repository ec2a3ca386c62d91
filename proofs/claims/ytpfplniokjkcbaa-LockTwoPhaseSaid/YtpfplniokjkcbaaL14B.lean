/- The law LockBlocks. -/
import Derived.Test.YtpfplniokjkcbaaL14A
import Derived.Deep.RegionHeld3
namespace Go.Proofs.Ytpfplniokjkcbaa
open Go.RowKit

/-- A call of layer 14: owner, lock. -/
structure Op14 where
  o : Int
  k : Int
def encO14 (x : Op14) : List Value := [.int .i64 x.o, .int .i64 x.k]
def opOk (x : Op14) : Prop := (-9223372036854775808 ≤ x.o ∧ x.o ≤ 9223372036854775807) ∧ -9223372036854775808 ≤ x.k ∧ x.k ≤ 9223372036854775807
theorem SlAt.op14 {w : World} {A : Option Addr} {l : List Op14} (h : SlAt encO14 2 w A l) {j : Nat} (hj : j < l.length) :
    ∃ b off, A = some ⟨b, off, none⟩ ∧ b < w.heap.size ∧ w.cell? ⟨b, off + j * 2, none⟩ = some (.int .i64 l[j].o) ∧ w.cell? ⟨b, off + j * 2 + 1, none⟩ = some (.int .i64 l[j].k) := by
  obtain ⟨b, off, hA, hb, hc⟩ := h.at_ hj
  exact ⟨b, off, hA, hb, by simpa using hc 0 _ rfl, hc 1 _ rfl⟩
theorem two_cnt {m q1 q2 : Nat} {c : Int} (h : q1 ≤ m) (e : q2 = if c = 0 then q1 + 1 else q1) : q2 ≤ m + 1 := by
  subst e
  split <;> omega

set_option maxRecDepth 100000 in
set_option maxHeartbeats 4000000 in
theorem blocks_main (l : List Op14) (A1 : Option Addr) (c1 : Nat) (hl : l.length ≤ 100) (hok : ∀ x ∈ l, opOk x) (o : Int) (ho : -9223372036854775808 ≤ o ∧ o ≤ 9223372036854775807) (ls : List Int) (A2 : Option Addr) (c2 : Nat) (hls : ls.length ≤ 60) (hlx : ∀ x ∈ ls, -9223372036854775808 ≤ x ∧ x ≤ 9223372036854775807) (w : World) (hS : SlAt encO14 2 w A1 l) (hS2 : SlAt encI 1 w A2 ls) :
    Calls Try.prog 4 #[.slice A1 l.length c1, .int .i64 o, .slice A2 ls.length c2] w fun e w' => e = .returned (.bool true) ∧ Below w.heap.size w w' := by
  have h1 : ¬ (100 : Int) < (l.length : Int) := by omega
  have h2 : ¬ (60 : Int) < (ls.length : Int) := by omega
  have HOK := Lib.hid hok
  have HO := Lib.hid ho
  have HX := Lib.hid hlx
  have HS := Lib.hid hS
  have HS2 := Lib.hid hS2
  have N := Lib.hid (lknew_any 9 (by omega) w)
  have RN := Lib.hid (fun W => rnew14_any 9 (by omega) W)
  clear hok ho hlx hS hS2
  unfold tbV at RN
  go_enter Try.func4, Try.ntmps4
  go_wp2_with fail
  refine N.out.mono ?_
  rintro e w1 ⟨g, S, rfl, t1, s1, hb1⟩
  have T1 := Lib.hid t1
  have S1 := Lib.hid s1
  have B1 := Lib.hid hb1
  clear t1 s1 hb1 N
  go_wp2_with fail
  refine (RN.out _).mono ?_
  rintro e w2 ⟨A, c, rfl, hr, hb2⟩
  have P0 := Lib.hid (LP.start (B := w.heap.size) (w0 := w) rfl T1.out S1.out B1.out hr hb2)
  clear hr hb2 RN T1 S1 B1
  generalize hL0 : List.replicate 9 (-1 : Int) = L0 at *
  have HL0 := Lib.hid (show L0.length = 9 by rw [← hL0]; rfl)
  clear hL0
  go_wp2_with fail
  generalize w2.alloc _ = w3 at *
  generalize w2.heap.size = bw at *
  go_loopw [26] (fun i wr => ∃ (k : Nat) (L : List Int) (q : Nat), k ≤ l.length ∧ i = .int .i64 k ∧ Hid (LP w.heap.size g bw A c L q w wr) ∧ Hid (L.length = 9) ∧ Hid (q ≤ k)) (fun i _ => l.length - (intOf i).toNat)
  case atStart => exact ⟨0, L0, 0, Nat.zero_le _, rfl, P0, HL0, Lib.hid (Nat.le_refl _)⟩
  case round =>
    obtain ⟨k, L, q, hk, rfl, HP, HL, HQ⟩ := hrel
    clear P0 HL0
    by_cases hlt : k < l.length
    · obtain ⟨b, off, rfl, hb, x0, x1⟩ := (HS.out.below HP.out.be).op14 hlt
      have hk0 : (0 : Int) ≤ (k : Int) := by omega
      have hk1 : (k : Int) < (l.length : Int) := by omega
      have HOP := Lib.hid (HOK.out l[k] (List.getElem_mem hlt))
      have P1 := Lib.hid (HP.out.op l[k].o l[k].k)
      obtain ⟨y0, y1⟩ := P1.out.cells
      have C1 := Lib.hid (P1.out.acqP HOP.out.1 HOP.out.2 (by have := HQ.out; omega))
      clear HP
      generalize l[k].o = oo at *
      generalize l[k].k = kk at *
      go_wp2_with fail
      refine C1.out.mono ?_
      rintro e w5 ⟨rfl, t5⟩
      have P5 := Lib.hid t5
      obtain ⟨z0, z1⟩ := t5.cells
      have C2 := Lib.hid (t5.acqR (by have := HL.out; omega) (by have := HQ.out; omega))
      clear t5 C1 P1 y0 y1
      go_wp2_with fail
      refine C2.out.mono ?_
      rintro e w6 ⟨rfl, t6⟩
      have P6 := Lib.hid t6.drop
      have HL6 := Lib.hid ((acqL_len L oo kk).trans HL.out)
      have HQ6 := Lib.hid (two_cnt (c := (acqL L oo kk).2) HQ.out rfl)
      clear t6 C2 P5 z0 z1
      go_wp2_with fail
      go_roundw
      case rel => exact ⟨k + 1, _, _, by omega, by go_num, P6, HL6, HQ6⟩
      case measure => simp [intOf]; omega
    · obtain rfl : k = l.length := by omega
      have AL := Lib.hid (fun W (h : LP w.heap.size g bw A c L q w W) => h.ali)
      have PB := Lib.hid (fun W (h : LP w.heap.size g bw A c L q w W) => h.blk o HO.out A2 c2 ls (by omega) HX.out (HS2.out.below h.be))
      have RB := Lib.hid (fun W (h : LP w.heap.size g bw A c L q w W) => h.blkR o (by have := HL.out; omega) A2 c2 ls (by omega) (HS2.out.below h.be))
      have hP := HP.out
      obtain ⟨y0, y1⟩ := HP.out.rf.cells
      clear HP
      generalize blkL L o ls = res at *
      go_upto_region 12 with (fail)
      go_region_held3 (fun w' => w'.cell? ⟨bw, 0, none⟩ = some (.slice A L.length c) ∧ w'.cell? ⟨bw, 1, none⟩ = some (.int .i64 (q : Int)) ∧ LP w.heap.size g bw A c L q w w')
        ((refine LP.keep ?_; repeat (first | assumption | refine LP.drawN ?_ _ | refine LP.draw ?_)))
        (first
          | (go_at_call 9; refine (AL.out _ (by repeat (first | assumption | refine LP.drawN ?_ _ | refine LP.draw ?_))).mono ?_; rintro e' w5 ⟨rfl, h5⟩)
          | (go_at_call 25; refine (PB.out _ (by repeat (first | assumption | refine LP.drawN ?_ _ | refine LP.draw ?_))).mono ?_; rintro e' w6 ⟨rfl, h6⟩)
          | (go_at_call 26; refine (RB.out _ (by repeat (first | assumption | refine LP.drawN ?_ _ | refine LP.draw ?_))).mono ?_; rintro e' w7 ⟨rfl, h7⟩))
      all_goals
        go_wp2_with fail
        go_ret
        exact ⟨by simp, h7.be⟩
theorem lockBlocks_any (A1 : Option Addr) (c1 : Nat) (l : List Op14) (o : Int) (ho : -9223372036854775808 ≤ o ∧ o ≤ 9223372036854775807) (ls : List Int) (A2 : Option Addr) (c2 : Nat) (hlm : l.length ≤ maxLen) (hlm2 : ls.length ≤ maxLen) (hok : ∀ x ∈ l, opOk x) (hlx : ∀ x ∈ ls, -9223372036854775808 ≤ x ∧ x ≤ 9223372036854775807) (w : World) (hS : SlAt encO14 2 w A1 l) (hS2 : SlAt encI 1 w A2 ls) :
    Calls Try.prog 4 #[.slice A1 l.length c1, .int .i64 o, .slice A2 ls.length c2] w fun e w' => e = .returned (.bool true) ∧ Below w.heap.size w w' := by
  unfold maxLen at hlm hlm2
  have AL := Lib.hid (fun W => alive14_any W)
  by_cases h1 : l.length ≤ 100
  · by_cases h2 : ls.length ≤ 60
    · exact blocks_main l A1 c1 h1 hok o ho ls A2 c2 h2 hlx w hS hS2
    · have h1i : ¬ (100 : Int) < (l.length : Int) := by omega
      have h2i : (60 : Int) < (ls.length : Int) := by omega
      clear h1 h2 hS hS2 hok hlx
      generalize l.length = n1 at *
      generalize ls.length = n2 at *
      go_enter Try.func4, Try.ntmps4
      go_wp2_with fail
      refine (AL.out _).mono ?_
      rintro e w1 ⟨rfl, hb⟩
      go_wp2_with fail
      go_ret
      exact ⟨rfl, hb⟩
  · have h1i : (100 : Int) < (l.length : Int) := by omega
    clear h1 hS hS2 hok hlx
    generalize l.length = n1 at *
    generalize ls.length = n2 at *
    go_enter Try.func4, Try.ntmps4
    go_wp2_with fail
    refine (AL.out _).mono ?_
    rintro e w1 ⟨rfl, hb⟩
    go_wp2_with fail
    go_ret
    exact ⟨rfl, hb⟩
theorem lockBlocks_law (A1 : Option Addr) (c1 : Nat) (l : List Op14) (hlm : l.length ≤ maxLen) (hok : ∀ x ∈ l, opOk x) (o : Int) (ho1 : -9223372036854775808 ≤ o) (ho2 : o ≤ 9223372036854775807) (A2 : Option Addr) (c2 : Nat) (ls : List Int) (hlm2 : ls.length ≤ maxLen) (hlx : ∀ x ∈ ls, -9223372036854775808 ≤ x ∧ x ≤ 9223372036854775807) (w : World) (hS : SlAt encO14 2 w A1 l) (hS2 : SlAt encI 1 w A2 ls) :
    Calls Try.prog 4 #[.slice A1 l.length c1, .int .i64 o, .slice A2 ls.length c2] w fun e w' => e = .returned (.bool true) ∧ Below w.heap.size w w' := lockBlocks_any A1 c1 l o ⟨ho1, ho2⟩ ls A2 c2 hlm hlm2 hok hlx w hS hS2
end Go.Proofs.Ytpfplniokjkcbaa
