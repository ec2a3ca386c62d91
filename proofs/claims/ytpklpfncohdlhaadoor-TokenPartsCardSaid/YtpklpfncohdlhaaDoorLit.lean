/- quote: Literal. -/
import Derived.Test.YtpklpfncohdlhaaDoorQuoted
import Derived.Test.YtpklpfncohdlhaaDoorDec
import Derived.Test.YtpklpfncohdlhaaDoorDecMath
namespace Go.Proofs.YtpklpfncohdlhaaDoor
open Go.RowKit
open Go.Lib hiding intOf

/-- The head of a literal form; the form. -/
def headL (n : Nat) : List UInt8 := 123 :: (decDigits n ++ [125, 13, 10])
def literalL (l : List UInt8) : List UInt8 := headL l.length ++ l
def bestL (l : List UInt8) : List UInt8 := if allT l = true then quotedL l else literalL l
theorem headL_len {n : Nat} (h : n ≤ 4294967295) : (headL n).length ≤ 14 := by
  have := dec_len h
  unfold headL
  rw [List.length_cons, List.length_append]
  simp only [List.length_cons, List.length_nil]
  omega

theorem headS_list (d : List UInt8) : (ByteArray.mk #[123] ++ ByteArray.mk d.toArray ++ ByteArray.mk #[125, 13, 10]).data.toList = 123 :: (d ++ [125, 13, 10]) := by
  simp
theorem headS_size (d : List UInt8) : (ByteArray.mk #[123] ++ ByteArray.mk d.toArray ++ ByteArray.mk #[125, 13, 10]).size = 1 + d.length + 3 := by
  rw [ByteArray.size_append, ByteArray.size_append]
  rfl

set_option maxRecDepth 100000 in
set_option maxHeartbeats 2000000 in
theorem literal_any (B : Nat) (A : Option Addr) (c : Nat) (l : List UInt8) (hl : l.length ≤ 1000000) (w : World) (henv : Env w) (hA : ByAt B w A c l) :
    Calls Tryd.prog 41 #[.slice A l.length c] w fun e w' => ∃ A' c', e = .returned (.slice A' (literalL l).length c') ∧ ByAt w'.heap.size w' A' c' (literalL l) ∧ Below w.heap.size w w' := by
  have D := Lib.hid (decimal_any l.length (by omega) w henv)
  have HA := Lib.hid hA.here
  have hcv : IntKind.u32.wrap (l.length : Int) = (l.length : Int) := by simp [IntKind.wrap, IntKind.bits, IntKind.signed]; omega
  have hdl := dec_len (u := l.length) (by omega)
  have HL := Lib.hid (show literalL l = (123 :: (decDigits l.length ++ [125, 13, 10])) ++ l from rfl)
  have HLL := Lib.hid (show (literalL l).length = 1 + (decDigits l.length).length + 3 + l.length by rw [HL.out]; simp; omega)
  clear henv hA
  generalize decDigits l.length = d at *
  generalize literalL l = L at *
  have CO := fun w1 => collector_any (1 + d.length + 3 + l.length) (by omega) w1
  rw [show ((1 + d.length + 3 + l.length : Nat) : Int) = 1 + (d.length : Int) + 3 + (l.length : Int) by omega] at CO
  obtain ⟨size, hsz⟩ : ∃ n, n = 1 + d.length + 3 + l.length := ⟨_, rfl⟩
  rw [← hsz] at CO HLL
  have CO := Lib.hid CO
  have hs1 : size ≤ 1 + d.length + 3 + l.length := by omega
  have hs2 : 1 + d.length + 3 + l.length ≤ size := by omega
  clear hsz
  go_enter Tryd.func41, Tryd.ntmps41
  go_wp2_with fail
  refine D.out.mono ?_
  rintro e w1 ⟨rfl, hb⟩
  clear D
  go_wp2_with fail
  refine (CO.out _).mono ?_
  rintro e w2 ⟨g, bu, ba, rfl, hC, h2⟩
  have hz := hb.size
  have hz2 := h2.size
  have hB2 := below_next hb h2
  clear CO hb h2
  obtain ⟨cap, w3, hcs, h3, hP, hcap, hw3, _⟩ := convB w2 (ByteArray.mk #[123] ++ ByteArray.mk d.toArray ++ ByteArray.mk #[125, 13, 10]) _ (headS_size d)
  rw [headS_list] at hP
  have hB3 := below_next hB2 h3
  have P1 := Lib.hid (put_at w1.heap.size g bu ba size [] (123 :: (d ++ [125, 13, 10])) _ _ cap (1 + d.length + 3) (1 + d.length + 3) (by simp; omega) (by simp) (by omega) (by omega) w3 (hC.below h3) hP)
  clear hC h3 hP hw3 hB2
  go_wp2_with fail
  refine P1.out.mono ?_
  rintro e w4 ⟨rfl, hC4, h4⟩
  have hB4 := hB3.trans (h4.mono hz)
  have P2 := Lib.hid (put_at w1.heap.size g bu ba size ([] ++ (123 :: (d ++ [125, 13, 10]))) l _ A c l.length size rfl (by simp; omega) (by omega) (by omega) w4 hC4.out (HA.out.below hB4))
  clear P1 h4 hB3 hcs hC4
  go_wp2_with fail
  refine P2.out.mono ?_
  rintro e w5 ⟨rfl, hC5, h5⟩
  have hB5 := hB4.trans (h5.mono hz)
  have HR := Lib.hid hC5.out.read
  rw [List.nil_append, ← HL.out] at HR
  go_wp2_with fail
  go_ret
  exact ⟨_, _, by rw [HLL.out]; rfl, HR.out, hB5⟩

end Go.Proofs.YtpklpfncohdlhaaDoor
