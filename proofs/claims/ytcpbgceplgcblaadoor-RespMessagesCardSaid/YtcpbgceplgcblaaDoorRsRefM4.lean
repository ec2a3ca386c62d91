/- The reference of layer 9: Message, of the items 0 .. 31; validity of it. -/
import Derived.Test.YtcpbgceplgcblaaDoorRsRefM
namespace Go.Proofs.YtcpbgceplgcblaaDoor
open Go.RowKit

theorem rmessage9_any (seq n : Nat) (hseq : seq ≤ 4294967295) (hn : n < 32) (uid flags : Nat) (body : List UInt8) (hb : body.length ≤ 1000) (A : Option Addr) (c : Nat) (w : World) (hA : ByAt w.heap.size w A c body) :
    Calls Tryd.prog 24 #[.int .i64 (seq : Int), .int .i64 (n : Int), .agg #[.int .u32 (uid : Int), .int .u8 (flags : Int), .slice A body.length c]] w (MsPost (rsMsg seq (n : Int) uid flags body) w) := by
  obtain ⟨-, h0, h1, h2, h4, h16, -⟩ := items32 ⟨n, hn⟩
  dsimp only at h0 h1 h2 h4 h16
  refine rmsg_go (rsMsg seq (n : Int) uid flags body) seq hseq (n : Int) (rsBit (n : Int) 1) (rsBit (n : Int) 2) (rsBit (n : Int) 4) (rsBit (n : Int) 24) rfl rfl rfl rfl uid flags body hb A c body.length rfl w hA (Lib.hid ⟨h0, ?_, ?_, ?_⟩) ?_ ⟨rfl, rfl, rfl, rfl, rfl⟩
  · show ((if rsBit (msgI (n : Int)) 1 = true then flags else 0 : Nat) : Int) = _
    rw [h1]
    split <;> rfl
  · show ((if rsBit (msgI (n : Int)) 2 = true then uid else 0 : Nat) : Int) = _
    rw [h2]
    split <;> rfl
  · show ((if rsBit (msgI (n : Int)) 4 = true then body.length else 0 : Nat) : Int) = _
    rw [h4]
    split <;> rfl
  · show (if rsBit (msgI (n : Int)) 16 = true then body else []) = _
    rw [h16]

theorem rsMsg_own (seq : Nat) (items : Int) (uid flags : Nat) (body : List UInt8) : rsOwn (rsMsg seq items uid flags body) = rsMsg seq items uid flags body := by
  unfold rsMsg
  generalize msgI items = i
  unfold rsOwn rsAmong
  dsimp only
  generalize rsBit i 1 = b1
  generalize rsBit i 2 = b2
  generalize rsBit i 4 = b3
  generalize rsBit i 16 = b4
  cases b1 <;> cases b2 <;> cases b3 <;> cases b4 <;> rfl
theorem rsMsg_ok (seq n uid flags : Nat) (body : List UInt8) (hn : n < 32) (hf : flags ≤ 31) (hb : body.length ≤ 1000) : rsOk (rsMsg seq (n : Int) uid flags body) = decide ((n : Int) > 0) := by
  obtain ⟨-, -, -, -, -, -, hi, h8, hz⟩ := items32 ⟨n, hn⟩
  dsimp only at hi h8 hz
  unfold rsOk
  rw [rsMsg_own, rsSame_refl, Bool.and_true]
  have e : rsFit (rsMsg seq (n : Int) uid flags body) = (decide (1 ≤ msgI (n : Int) ∧ msgI (n : Int) ≤ 31 ∧ rsBit (msgI (n : Int)) 8 = false) && (decide ((if rsBit (msgI (n : Int)) 1 = true then flags else 0) ≤ 31) && decide ((if rsBit (msgI (n : Int)) 16 = true then body else []).length ≤ 65536))) := rfl
  rw [e]
  have e1 : (if rsBit (msgI (n : Int)) 1 = true then flags else 0) ≤ 31 := by split <;> omega
  have e2 : (if rsBit (msgI (n : Int)) 16 = true then body else []).length ≤ 65536 := by
    split
    · omega
    · simp
  rw [decide_eq_true e1, decide_eq_true e2, Bool.and_true, Bool.and_true]
  by_cases h : n = 0
  · have := hz.2 h
    rw [decide_eq_false (by omega), decide_eq_false (by omega)]
  · have h' : msgI (n : Int) ≠ 0 := fun e => h (hz.1 e)
    rw [decide_eq_true (by refine ⟨by omega, hi.2, h8⟩), decide_eq_true (by omega)]
theorem rsMsg_len (seq : Nat) (items : Int) (uid flags : Nat) (body : List UInt8) : (rsMsg seq items uid flags body).body.length ≤ body.length := by
  show (if rsBit (msgI items) 16 = true then body else []).length ≤ _
  split
  · exact Nat.le_refl _
  · simp
theorem rsMsg_sm (seq : Nat) (items : Int) (uid flags : Nat) (body : List UInt8) (hb : body.length ≤ 1000) : RIsm (rsMsg seq items uid flags body) := ⟨by show (0 : Nat) ≤ 1000; omega, by show (0 : Nat) ≤ 1000; omega, Nat.le_trans (rsMsg_len ..) hb⟩
theorem rsMsg_riok (seq n uid flags : Nat) (body : List UInt8) (hn : n < 32) (hs : seq ≤ 4294967295) (hu : uid ≤ 4294967295) (hf : flags ≤ 255) (hb : body.length ≤ 1000) : RIok (rsMsg seq (n : Int) uid flags body) := by
  obtain ⟨-, -, -, -, -, -, hi, -⟩ := items32 ⟨n, hn⟩
  dsimp only at hi
  refine ⟨by show -9223372036854775808 ≤ (4 : Int) ∧ (4 : Int) ≤ 9223372036854775807; omega, hs, by show -9223372036854775808 ≤ (0 : Int) ∧ (0 : Int) ≤ 9223372036854775807; omega, ?_, ?_, ?_, ?_⟩
  · show -9223372036854775808 ≤ msgI (n : Int) ∧ msgI (n : Int) ≤ 9223372036854775807
    omega
  · show (if rsBit (msgI (n : Int)) 1 = true then flags else 0) ≤ 255
    split <;> omega
  · show (if rsBit (msgI (n : Int)) 2 = true then uid else 0) ≤ 4294967295
    split <;> omega
  · show (if rsBit (msgI (n : Int)) 4 = true then body.length else 0) ≤ 4294967295
    split <;> omega
end Go.Proofs.YtcpbgceplgcblaaDoor
