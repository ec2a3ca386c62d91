/- quote: bytes.LastIndexByte at an opening bracket; Announced. -/
import Derived.Test.YtldlghfjinpnkaaDoorAnnMath
namespace Go.Proofs.YtldlghfjinpnkaaDoor
open Go.RowKit

theorem last_step {l : List UInt8} {p : Nat} (h : ∀ j : Nat, p + 1 ≤ j → l[j]? ≠ some 123) (hp : l[p]? ≠ some 123) : ∀ j : Nat, p ≤ j → l[j]? ≠ some 123 := fun j hj => by
  rcases Nat.eq_or_lt_of_le hj with rfl | hlt
  · exact hp
  · exact h j hlt

set_option maxRecDepth 100000 in
set_option maxHeartbeats 1000000 in
theorem lastB_any (B c : Nat) (A : Option Addr) (l : List UInt8) (hl : l.length ≤ 1000000000) (w : World) (hA : ByAt B w A c l) :
    Calls Tryd.prog 57 #[.slice A l.length c, .int .u8 123] w fun e w' => (∃ x : Int, e = .returned (.int .i64 x) ∧ Hid (LastP l x)) ∧ w = w' := by
  have HA := Lib.hid hA
  clear hA
  go_enter Tryd.func57, Tryd.ntmps57
  go_wp2_with fail
  go_loop [5] (fun i => ∃ k : Nat, k ≤ l.length ∧ i = .int .i64 ((k : Int) - 1) ∧ Hid (∀ j : Nat, k ≤ j → l[j]? ≠ some 123)) (fun i => (intOf i + 1).toNat)
  case atStart => exact ⟨l.length, Nat.le_refl _, rfl, fun j hj => by rw [List.getElem?_eq_none hj]; simp⟩
  case round =>
    obtain ⟨k, hk, rfl, hJ⟩ := hrel
    cases k with
    | zero =>
      have HL := Lib.hid (show LastP l (-1) from Or.inl ⟨rfl, fun j => hJ.out j (Nat.zero_le _)⟩)
      clear hJ
      go_wp2_with fail
      go_ret
      exact ⟨⟨_, rfl, HL.out⟩, rfl⟩
    | succ p =>
      rw [show (((p + 1 : Nat) : Int) - 1) = (p : Int) by omega]
      obtain ⟨b, off, rfl, _, _, hc⟩ := HA.out.cell (j := p) (by omega)
      have hlt : p < l.length := by omega
      by_cases h : l[p]? = some 123
      · have HL := Lib.hid (show LastP l (p : Int) from Or.inr ⟨p, rfl, h, fun j hj => hJ.out j hj⟩)
        have hx : l[p] = 123 := (List.getElem?_eq_some_iff.1 h).2
        rw [hx] at hc
        have hc' : w.cell? ⟨b, off + p, none⟩ = some (.int .u8 123) := hc
        clear hJ h hx hc
        go_wp2_with fail
        go_ret
        exact ⟨⟨_, rfl, HL.out⟩, rfl⟩
      · have HN := Lib.hid (last_step hJ.out h)
        have hne : ((l[p].toNat : Int) == 123) = false := by
          rw [beq_eq_false_iff_ne]
          intro e
          apply h
          rw [List.getElem?_eq_getElem hlt]
          congr 1
          apply UInt8.toNat_inj.1
          show l[p].toNat = 123
          omega
        clear hJ h
        generalize l[p].toNat = x at *
        go_wp2_with fail
        go_round
        case rel => exact ⟨p, by omega, rfl, HN.out⟩
        case measure => simp [intOf]

set_option maxRecDepth 100000 in
theorem lastI_any (B c : Nat) (A : Option Addr) (l : List UInt8) (hl : l.length ≤ 1000000000) (w : World) (hA : ByAt B w A c l) :
    Calls Tryd.prog 46 #[.slice A l.length c, .int .u8 123] w fun e w' => (∃ x : Int, e = .returned (.int .i64 x) ∧ Hid (LastP l x)) ∧ w = w' := by
  have C := Lib.hid (lastB_any B c A l hl w hA)
  clear hA
  go_enter Tryd.func46, Tryd.ntmps46
  go_wp2_with fail
  refine C.out.mono ?_
  rintro e w1 ⟨⟨x, rfl, hx⟩, rfl⟩
  go_wp2_with fail
  go_ret
  exact ⟨⟨_, rfl, hx⟩, rfl⟩

theorem lastP_bd {l : List UInt8} {x : Int} (h : LastP l x) : -1 ≤ x ∧ x ≤ l.length := by
  rcases h with ⟨rfl, _⟩ | ⟨k, rfl, h1, _⟩
  · omega
  · have := (List.getElem?_eq_some_iff.1 h1).1
    omega
theorem annX_nat {l : List UInt8} {k : Nat} : annX l (k : Int) = annO (l.drop k) := by
  unfold annX
  rw [if_pos (by omega)]
  rfl

/-- What Announced answers. -/
def AnnPost (l : List UInt8) (e : Ending) : Prop := ∃ o : Option Nat, IsAnn l o ∧ e = .returned (.tuple #[.int .i64 ((o.getD 0 : Nat) : Int), .bool o.isSome])

set_option maxRecDepth 100000 in
set_option maxHeartbeats 1000000 in
theorem announced_any (B c : Nat) (A : Option Addr) (l : List UInt8) (hl : l.length ≤ 1000000) (w : World) (henv : Env w) (hA : ByAt B w A c l) :
    Calls Tryd.prog 34 #[.slice A l.length c] w fun e w' => AnnPost l e ∧ Below w.heap.size w w' := by
  have LI := Lib.hid (lastI_any B c A l (by omega) w hA)
  have AN := Lib.hid (fun x h1 h2 => annF_any w.heap.size c A l x h1 h2 (by omega) _ (fun w1 hb => henv.below ((below_al w (.cells #[.slice A l.length c, .int .i64 x] 85)).trans hb)) (cur_new hA x))
  clear henv hA
  go_enter Tryd.func34, Tryd.ntmps34
  go_wp2_with fail
  refine LI.out.mono ?_
  rintro e w1 ⟨⟨x, rfl, hx⟩, rfl⟩
  have hbd := lastP_bd hx.out
  have AN := Lib.hid (AN.out x (by omega) (by omega))
  clear LI
  go_wp2_with fail
  refine AN.out.mono ?_
  rintro e w2 ⟨ha, hb⟩
  have HB := Lib.hid ((below_al w (.cells #[.slice A l.length c, .int .i64 x] 85)).trans hb)
  unfold AXPost at ha
  rcases ha with ⟨n, j, k, rfl, ha, hn, hkj, rfl, hc⟩ | ⟨ha, n, rfl⟩
  · have c1 := hc.c1
    rw [annX_nat] at ha
    by_cases hend : k + j = l.length
    · have HR := Lib.hid (show IsAnn l (some n) from ann_of ha hend)
      have e1 : decide (k + j < l.length) = false := by simp; omega
      have e2 : decide (((k + j : Nat) : Int) < (l.length : Int)) = false := by simp; omega
      clear ha AN hc hend hb hx
      generalize k + j = m at *
      go_wp2_with fail
      go_ret2
      exact ⟨⟨some n, HR.out, rfl⟩, HB.out⟩
    · have HR := Lib.hid (show IsAnn l none from fun m hm => by
        obtain ⟨k', hk', h1, h2⟩ := ann_at hm hx.out
        have : k' = k := by omega
        subst this
        rw [ha] at h1
        simp only [Option.some.injEq, Prod.mk.injEq] at h1
        omega)
      have e1 : decide (k + j < l.length) = true := by simp; omega
      have e2 : decide (((k + j : Nat) : Int) < (l.length : Int)) = true := by simp; omega
      clear ha AN hc hend hb hx
      generalize k + j = m at *
      go_wp2_with fail
      go_ret2
      exact ⟨⟨none, HR.out, rfl⟩, HB.out⟩
  · have HR := Lib.hid (show IsAnn l none from fun m hm => by
      obtain ⟨k', hk', h1, h2⟩ := ann_at hm hx.out
      subst hk'
      rw [annX_nat, h1] at ha
      cases ha)
    clear ha AN hb hx
    go_wp2_with fail
    go_ret2
    exact ⟨⟨none, HR.out, rfl⟩, HB.out⟩
end Go.Proofs.YtldlghfjinpnkaaDoor
