/- quote: the scanner's announcement. -/
import Derived.Test.YtpklpfncohdlhaaDoorDigits
import Derived.Test.YtpklpfncohdlhaaDoorSMath
import Derived.Test.YtpklpfncohdlhaaDoorNum
namespace Go.Proofs.YtpklpfncohdlhaaDoor
open Go.RowKit

/-- The beginning of a literal form: its number, how many bytes it takes up to its closing bracket. -/
def annO (r : List UInt8) : Option (Nat × Nat) :=
  if r[0]? = some 123 then
    match numOf (dgL (r.drop 1)) with
    | some n => if (r.drop 1)[(dgL (r.drop 1)).length]? = some 125 then some (n, (dgL (r.drop 1)).length + 2) else none
    | none => none
  else none
def APost (bs c : Nat) (A : Option Addr) (l : List UInt8) (k : Nat) (e : Ending) (w' : World) : Prop :=
  (∃ n j, annO (l.drop k) = some (n, j) ∧ n ≤ 4294967295 ∧ k + j ≤ l.length ∧ e = .returned (.tuple #[.int .u32 (n : Nat), .bool true]) ∧ Cur bs A c l ((k + j : Nat) : Int) w') ∨
  (annO (l.drop k) = none ∧ ∃ n : Nat, e = .returned (.tuple #[.int .u32 (n : Nat), .bool false]))

theorem mk_size (l : List UInt8) : (ByteArray.mk l.toArray).size = l.length := by show l.toArray.size = _; simp

set_option maxRecDepth 100000 in
theorem annF_no (bs c : Nat) (A : Option Addr) (l : List UInt8) (k : Nat) (hk : k ≤ l.length) (hm : l[k]? ≠ some 123) (hl : l.length ≤ 1000000000) (w : World) (h : Cur bs A c l (k : Int) w) :
    Calls Tryd.prog 70 #[.pointer (some ⟨bs, 0, none⟩)] w fun e w' => e = .returned (.tuple #[.int .u32 0, .bool false]) ∧ Below bs w w' := by
  have P := Lib.hid (pass_f bs c A l k hk 123 hm hl w h)
  clear h hm
  go_enter Tryd.func70, Tryd.ntmps70
  go_wp2_with fail
  refine P.out.mono ?_
  rintro e w1 ⟨rfl, _, hb1⟩
  go_wp2_with fail
  go_ret2
  exact ⟨rfl, hb1⟩

set_option maxRecDepth 100000 in
theorem annF_out (bs c : Nat) (A : Option Addr) (l : List UInt8) (x : Int) (h1 : -9223372036854775808 ≤ x) (h2 : x ≤ 9223372036854775807) (hx : x < 0 ∨ (l.length : Int) < x) (hl : l.length ≤ 1000000000) (w : World) (h : Cur bs A c l x w) :
    Calls Tryd.prog 70 #[.pointer (some ⟨bs, 0, none⟩)] w fun e w' => e = .returned (.tuple #[.int .u32 0, .bool false]) ∧ Below bs w w' := by
  have P := Lib.hid (pass_out bs c A l x h1 h2 hx 123 hl w h)
  clear h hx h1 h2
  go_enter Tryd.func70, Tryd.ntmps70
  go_wp2_with fail
  refine P.out.mono ?_
  rintro e w1 ⟨rfl, _, hb1⟩
  go_wp2_with fail
  go_ret2
  exact ⟨rfl, hb1⟩

theorem num_le {l : List UInt8} {u : Nat} (h : numOf l = some u) : u ≤ 4294967295 := (numOf_some h).1

set_option maxRecDepth 100000 in
set_option maxHeartbeats 1000000 in
theorem annF_mark (bs c : Nat) (A : Option Addr) (l : List UInt8) (k : Nat) (hm : l[k]? = some 123) (hl : l.length ≤ 1000000000) (w : World) (henv : ∀ w1, Below bs w w1 → Env w1) (h : Cur bs A c l (k : Int) w) :
    Calls Tryd.prog 70 #[.pointer (some ⟨bs, 0, none⟩)] w fun e w' => APost bs c A l k e w' ∧ Below bs w w' := by
  have hk : k < l.length := (List.getElem?_eq_some_iff.1 hm).1
  have P := Lib.hid (pass_t bs c A l k 123 hm hl w h)
  have DG := Lib.hid (fun w1 (hc : Cur bs A c l ((k + 1 : Nat) : Int) w1) => digits_any bs c A l (k + 1) (by omega) hl w1 hc)
  have hd := dgL_le (l.drop (k + 1))
  rw [List.length_drop] at hd
  have NM := Lib.hid (fun w1 (hb : Below bs w w1) => number_any ⟨(dgL (l.drop (k + 1))).toArray⟩ (by rw [mk_size]; omega) w1 (henv w1 hb))
  have HAO := Lib.hid (show annO (l.drop k) = match numOf (dgL (l.drop (k + 1))) with | some n => if l[k + 1 + (dgL (l.drop (k + 1))).length]? = some 125 then some (n, (dgL (l.drop (k + 1))).length + 2) else none | none => none by
    unfold annO
    rw [if_pos (by rw [drop_at]; exact hm), List.drop_drop, List.getElem?_drop])
  have PT := Lib.hid (fun p hp w1 hc => pass_t bs c A l p 125 hp hl w1 hc)
  have PF := Lib.hid (fun p hp hx w1 hc => pass_f bs c A l p hp 125 hx hl w1 hc)
  have hbs := h.lt
  clear h hm henv
  generalize dgL (l.drop (k + 1)) = D at *
  rw [show (ByteArray.mk D.toArray).data.toList = D from by simp] at NM
  cases ho : numOf D with
  | none =>
    rw [ho] at NM HAO
    rw [show ((none : Option Nat).getD 0 : Nat) = 0 from rfl, show (none : Option Nat).isSome = false from rfl] at NM
    clear ho PT PF
    go_enter Tryd.func70, Tryd.ntmps70
    go_wp2_with fail
    refine P.out.mono ?_
    rintro e w1 ⟨rfl, hc1, hb1⟩
    have DG := Lib.hid (DG.out w1 (hc1.out.cast (by omega)))
    clear P
    go_wp2_with fail
    refine DG.out.mono ?_
    rintro e w2 ⟨rfl, hc2, hb2⟩
    have hB2 := Lib.hid (hb1.trans hb2)
    clear DG hb1 hb2
    go_wp2_with fail
    refine (NM.out _ hB2.out).mono ?_
    rintro e w3 ⟨rfl, hb3⟩
    have hB3 := Lib.hid (hB2.out.trans (hb3.mono (Nat.le_of_lt hc2.out.lt)))
    clear hb3
    go_wp2_with fail
    go_ret2
    exact ⟨Or.inr ⟨HAO.out, 0, rfl⟩, hB3.out⟩
  | some n =>
    have hn := num_le ho
    rw [ho] at NM HAO
    rw [show ((some n).getD 0 : Nat) = n from rfl, show (some n).isSome = true from rfl] at NM
    clear ho
    by_cases h125 : l[k + 1 + D.length]? = some 125
    · have HAO := Lib.hid (HAO.out.trans (if_pos h125))
      have PT := Lib.hid (PT.out (k + 1 + D.length) h125)
      have hlt := (List.getElem?_eq_some_iff.1 h125).1
      clear h125 PF
      go_enter Tryd.func70, Tryd.ntmps70
      go_wp2_with fail
      refine P.out.mono ?_
      rintro e w1 ⟨rfl, hc1, hb1⟩
      have DG := Lib.hid (DG.out w1 (hc1.out.cast (by omega)))
      clear P
      go_wp2_with fail
      refine DG.out.mono ?_
      rintro e w2 ⟨rfl, hc2, hb2⟩
      have hB2 := Lib.hid (hb1.trans hb2)
      clear DG hb1 hb2
      go_wp2_with fail
      refine (NM.out _ hB2.out).mono ?_
      rintro e w3 ⟨rfl, hb3⟩
      have hB3 := Lib.hid (hB2.out.trans (hb3.mono (Nat.le_of_lt hc2.out.lt)))
      have PT := Lib.hid (PT.out w3 ((hc2.out.grow hb3).cast (by omega)))
      clear hb3
      go_wp2_with fail
      refine PT.out.mono ?_
      rintro e w4 ⟨rfl, hc4, hb4⟩
      have hB4 := Lib.hid (hB3.out.trans hb4)
      clear hb4
      go_wp2_with fail
      go_ret2
      exact ⟨Or.inl ⟨n, D.length + 2, HAO.out, hn, by omega, rfl, hc4.out.cast (by omega)⟩, hB4.out⟩
    · have HAO := Lib.hid (HAO.out.trans (if_neg h125))
      have PF := Lib.hid (PF.out (k + 1 + D.length) (by omega) h125)
      clear h125 PT
      go_enter Tryd.func70, Tryd.ntmps70
      go_wp2_with fail
      refine P.out.mono ?_
      rintro e w1 ⟨rfl, hc1, hb1⟩
      have DG := Lib.hid (DG.out w1 (hc1.out.cast (by omega)))
      clear P
      go_wp2_with fail
      refine DG.out.mono ?_
      rintro e w2 ⟨rfl, hc2, hb2⟩
      have hB2 := Lib.hid (hb1.trans hb2)
      clear DG hb1 hb2
      go_wp2_with fail
      refine (NM.out _ hB2.out).mono ?_
      rintro e w3 ⟨rfl, hb3⟩
      have hB3 := Lib.hid (hB2.out.trans (hb3.mono (Nat.le_of_lt hc2.out.lt)))
      have PF := Lib.hid (PF.out w3 ((hc2.out.grow hb3).cast (by omega)))
      clear hb3
      go_wp2_with fail
      refine PF.out.mono ?_
      rintro e w4 ⟨rfl, hc4, hb4⟩
      have hB4 := Lib.hid (hB3.out.trans hb4)
      clear hb4
      go_wp2_with fail
      go_ret2
      exact ⟨Or.inr ⟨HAO.out, n, rfl⟩, hB4.out⟩

/-- Whatever place. -/
def annX (l : List UInt8) (x : Int) : Option (Nat × Nat) := if 0 ≤ x then annO (l.drop x.toNat) else none
def AXPost (bs c : Nat) (A : Option Addr) (l : List UInt8) (x : Int) (e : Ending) (w' : World) : Prop :=
  (∃ (n j k : Nat), x = k ∧ annX l x = some (n, j) ∧ n ≤ 4294967295 ∧ k + j ≤ l.length ∧ e = .returned (.tuple #[.int .u32 (n : Nat), .bool true]) ∧ Cur bs A c l ((k + j : Nat) : Int) w') ∨
  (annX l x = none ∧ ∃ n : Nat, e = .returned (.tuple #[.int .u32 (n : Nat), .bool false]))
theorem annO_no {l : List UInt8} {k : Nat} (h : l[k]? ≠ some 123) : annO (l.drop k) = none := by
  unfold annO
  rw [if_neg (by rw [drop_at]; exact h)]
theorem annF_any (bs c : Nat) (A : Option Addr) (l : List UInt8) (x : Int) (h1 : -9223372036854775808 ≤ x) (h2 : x ≤ 9223372036854775807) (hl : l.length ≤ 1000000000) (w : World) (henv : ∀ w1, Below bs w w1 → Env w1) (h : Cur bs A c l x w) :
    Calls Tryd.prog 70 #[.pointer (some ⟨bs, 0, none⟩)] w fun e w' => AXPost bs c A l x e w' ∧ Below bs w w' := by
  by_cases hin : 0 ≤ x ∧ x ≤ l.length
  · obtain ⟨k, rfl⟩ : ∃ k : Nat, x = k := ⟨x.toNat, by omega⟩
    have e0 : annX l (k : Int) = annO (l.drop k) := by unfold annX; rw [if_pos (by omega)]; rfl
    by_cases hm : l[k]? = some 123
    · refine (annF_mark bs c A l k hm hl w henv h).mono fun e w' ⟨ha, hb⟩ => ⟨?_, hb⟩
      unfold AXPost
      rw [e0]
      rcases ha with ⟨n, j, a1, a2, a3, a4, a5⟩ | ⟨a1, n, a2⟩
      · exact Or.inl ⟨n, j, k, rfl, a1, a2, a3, a4, a5⟩
      · exact Or.inr ⟨a1, n, a2⟩
    · refine (annF_no bs c A l k (by omega) hm hl w h).mono fun e w' ⟨ha, hb⟩ => ⟨Or.inr ⟨?_, 0, ha⟩, hb⟩
      rw [e0]; exact annO_no hm
  · have hx : x < 0 ∨ (l.length : Int) < x := by omega
    refine (annF_out bs c A l x h1 h2 hx hl w h).mono fun e w' ⟨ha, hb⟩ => ⟨Or.inr ⟨?_, 0, ha⟩, hb⟩
    unfold annX
    by_cases h0 : 0 ≤ x
    · rw [if_pos h0]
      exact annO_no (by rw [List.getElem?_eq_none (by omega)]; simp)
    · rw [if_neg h0]
end Go.Proofs.YtpklpfncohdlhaaDoor
