/- The reference of layer 7: Valid. -/
import Derived.Test.YtpgfnlhfciacoaaGreatDoorGw
import Derived.Test.YtpgfnlhfciacoaaGreatDoorHa
import Derived.Test.YtpgfnlhfciacoaaGreatDoorRef08C
import Derived.IntWalk
namespace Go.Proofs.YtpgfnlhfciacoaaGreatDoor
open Go.RowKit

/-- The bounds of its kind, as the reference asks for them. -/
def okR (a : CI) : Bool :=
  if a.kind = 5 then decide (a.mbox.length ≤ 65536)
  else if a.kind = 6 then decide (a.mbox.length ≤ 65536) && (decide (a.data.length ≤ 65536) && decide (a.flags ≤ 31))
  else if a.kind = 7 then decide (0 < a.set.length) && (decide (1 ≤ a.items) && decide (a.items ≤ 31))
  else if a.kind = 8 then decide (0 < a.set.length) && (decide (0 ≤ a.mode) && (decide (a.mode ≤ 2) && decide (a.flags ≤ 31)))
  else true
def validR (a : CI) : Bool := allL tagN a.tag && ((decide (1 ≤ a.kind) && decide (a.kind ≤ 8)) && (okR a && sameC a (ownC a)))
def VRelR (w : World) (a : CI) (A1 A2 : Option Addr) (k1 k2 : Nat) (s4 : Value) (wx : World) : Prop :=
  ∃ (o : CI) (A3 A4 : Option Addr) (k3 k4 : Nat), Hid (o = ownC a) ∧ s4 = .bool (okR a) ∧ Hid (SlAt encR 2 w A3 o.set) ∧ Hid (ByAt w.heap.size w A4 k4 o.data) ∧ Hid (Box2 w wx a o A1 A2 k1 k2 A3 A4 k3 k4)
theorem vrelR_mk (w : World) (tag mbox data : List UInt8) (set : List R) (kind items mode flags : Int) (silent : Bool) (A1 A2 : Option Addr) (k1 k2 n : Nat) (hn : set.length = n) (o : CI) (A3 A4 : Option Addr) (k3 k4 : Nat) (q : Bool) (h1 : o = ownC ⟨tag, kind, mbox, set, items, mode, silent, flags, data⟩) (h2 : q = okR ⟨tag, kind, mbox, set, items, mode, silent, flags, data⟩) (h3 : SlAt encR 2 w A3 o.set) (h4 : ByAt w.heap.size w A4 k4 o.data) (m : Nat) (hm : o.set.length = m) :
    VRelR w ⟨tag, kind, mbox, set, items, mode, silent, flags, data⟩ A1 A2 k1 k2 (.bool q) ((w.alloc (.cells #[.string ⟨tag.toArray⟩, .int .i64 kind, .string ⟨mbox.toArray⟩, .slice A1 n k1, .int .i64 items, .int .i64 mode, .bool silent, .int .u8 flags, .slice A2 data.length k2] 26)).alloc (.cells #[.string ⟨o.tag.toArray⟩, .int .i64 o.kind, .string ⟨o.mbox.toArray⟩, .slice A3 m k3, .int .i64 o.items, .int .i64 o.mode, .bool o.silent, .int .u8 o.flags, .slice A4 o.data.length k4] 26)) := by
  subst hn hm
  exact ⟨o, A3, A4, k3, k4, Lib.hid h1, by rw [h2], Lib.hid h3, Lib.hid h4, Lib.hid (Box2.start w ⟨tag, kind, mbox, set, items, mode, silent, flags, data⟩ o A1 A2 k1 k2 A3 A4 k3 k4)⟩
theorem okR_5 {tag mbox : List UInt8} {set : List R} {items mode flags : Int} {silent : Bool} {data : List UInt8} : okR ⟨tag, 5, mbox, set, items, mode, silent, flags, data⟩ = decide (mbox.length ≤ 65536) := rfl
theorem okR_6 {tag mbox : List UInt8} {set : List R} {items mode flags : Int} {silent : Bool} {data : List UInt8} : okR ⟨tag, 6, mbox, set, items, mode, silent, flags, data⟩ = (decide (mbox.length ≤ 65536) && (decide (data.length ≤ 65536) && decide (flags ≤ 31))) := rfl
theorem okR_7 {tag mbox : List UInt8} {set : List R} {items mode flags : Int} {silent : Bool} {data : List UInt8} : okR ⟨tag, 7, mbox, set, items, mode, silent, flags, data⟩ = (decide (0 < set.length) && (decide (1 ≤ items) && decide (items ≤ 31))) := rfl
theorem okR_8 {tag mbox : List UInt8} {set : List R} {items mode flags : Int} {silent : Bool} {data : List UInt8} : okR ⟨tag, 8, mbox, set, items, mode, silent, flags, data⟩ = (decide (0 < set.length) && (decide (0 ≤ mode) && (decide (mode ≤ 2) && decide (flags ≤ 31)))) := rfl

/-- Both ask the same. -/
theorem validR_eq (a : CI) : validR a = validC a := by
  obtain ⟨tag, kind, mbox, set, items, mode, silent, flags, data⟩ := a
  unfold validR validC
  rw [Bool.eq_iff_iff]
  simp only [Bool.and_eq_true, decide_eq_true_eq, shortC]
  by_cases hk : 1 ≤ kind ∧ kind ≤ 8
  rotate_left
  · have h7 : ¬ kind = 7 := by omega
    have h8 : ¬ kind = 8 := by omega
    simp only [okC, h7, h8, if_false, Bool.and_eq_true, decide_eq_true_eq]
    constructor
    · rintro ⟨_, h, _⟩; exact absurd h hk
    · rintro ⟨h, _⟩; omega
  · have hc : kind = 1 ∨ kind = 2 ∨ kind = 3 ∨ kind = 4 ∨ kind = 5 ∨ kind = 6 ∨ kind = 7 ∨ kind = 8 := by omega
    rcases hc with rfl | rfl | rfl | rfl | rfl | rfl | rfl | rfl
    all_goals
      simp [okC, okR, ownC, sameC]
      constructor <;> (intro h; simp_all)
theorem refIsTag7_any (s : ByteArray) (hs : s.size ≤ 1000000000) (w : World) :
    Calls Tryz.prog 49 #[.string s] w fun e w' => e = .returned (.bool (allL tagN s.data.toList)) ∧ w = w' := by
  go_enter Tryz.func49, Tryz.ntmps49
  go_wp2_with fail
  go_loop [3] (fun i => ∃ k : Nat, k ≤ s.size ∧ i = .int .i64 k ∧ (s.data.toList.take k).all (fun c => tagN c.toNat) = true) (fun i => s.size - (intOf i).toNat)
  case atStart => exact ⟨0, Nat.zero_le _, rfl, rfl⟩
  case round =>
    obtain ⟨k, hk, rfl, ha⟩ := hrel
    have HA := Lib.hid ha
    clear ha
    by_cases hlt : k < s.size
    · have hn : s[k].toNat ≤ 255 := by have := s[k].toNat_lt; omega
      have C := Lib.hid (refTag_any s[k].toNat w hn)
      cases hg : tagN s[k].toNat with
      | true =>
        have HG := Lib.hid hg
        rw [hg] at C
        clear hg
        go_wp2_with fail
        refine C.out.mono ?_
        rintro e w' ⟨rfl, rfl⟩
        go_wp2
        go_round
        case rel => exact ⟨k + 1, by omega, by go_num, by rw [take_snocB s k hlt, List.all_append, HA.out, List.all_cons, HG.out]; rfl⟩
        case measure => simp [intOf]; omega
      | false =>
        have HG := Lib.hid (all_false tagN s k hlt hg)
        rw [hg] at C
        clear hg
        go_wp2_with fail
        refine C.out.mono ?_
        rintro e w' ⟨rfl, rfl⟩
        go_wp2
        go_ret
        exact ⟨ret_bool HG.out.symm, rfl⟩
    · obtain rfl : k = s.size := by omega
      have HG := Lib.hid (all_done tagN s HA.out)
      go_wp2_with fail
      go_ret
      exact ⟨ret_bool HG.out.symm, rfl⟩

set_option maxRecDepth 100000 in
set_option maxHeartbeats 2000000 in
theorem rvalid_any (a : CI) (A1 A2 : Option Addr) (k1 k2 : Nat) (l0 : a.tag.length ≤ 1000000) (l3 : a.mbox.length ≤ 1000000) (l1 : a.set.length ≤ 1000000) (l2 : a.data.length ≤ 1000000) (w : World) (s1 : SlAt encR 2 w A1 a.set) (s2 : ByAt w.heap.size w A2 k2 a.data) :
    Calls Tryz.prog 27 #[ciV a A1 A2 k1 k2] w fun e w' => e = .returned (.bool (validR a)) ∧ Below w.heap.size w w' := by
  obtain ⟨tag, kind, mbox, set, items, mode, silent, flags, data⟩ := a
  obtain ⟨n, hn⟩ : ∃ n, set.length = n := ⟨_, rfl⟩
  unfold ciV
  have S1 : Hid (SlAt encR 2 w A1 set) := Lib.hid s1
  have S2 : Hid (ByAt w.heap.size w A2 k2 data) := Lib.hid s2
  have SN := Lib.hid (show SlAt encR 2 w none ([] : List R) from .inl rfl)
  have BN := Lib.hid (ByAt.nil w.heap.size w none 0)
  have HL1 : Hid (set.length ≤ 1000000) := Lib.hid l1
  have HL2 : Hid (data.length ≤ 1000000) := Lib.hid l2
  have HN := Lib.hid hn
  have HB0 := Lib.hid (below_al w (.cells #[.string ⟨tag.toArray⟩, .int .i64 kind, .string ⟨mbox.toArray⟩, .slice A1 n k1, .int .i64 items, .int .i64 mode, .bool silent, .int .u8 flags, .slice A2 data.length k2] 26))
  have AT : Hid (∀ W, Calls Tryz.prog 49 #[.string ⟨tag.toArray⟩] W fun e w' => e = .returned (.bool (allL tagN tag)) ∧ W = w') := Lib.hid (fun W => refIsTag7_any ⟨tag.toArray⟩ (by have : tag.length ≤ 1000000 := l0; show tag.toArray.size ≤ _; simp; omega) W)
  have HR := Lib.hid (show validR ⟨tag, kind, mbox, set, items, mode, silent, flags, data⟩ = (allL tagN tag && ((decide (1 ≤ kind) && decide (kind ≤ 8)) && (okR ⟨tag, kind, mbox, set, items, mode, silent, flags, data⟩ && sameC ⟨tag, kind, mbox, set, items, mode, silent, flags, data⟩ (ownC ⟨tag, kind, mbox, set, items, mode, silent, flags, data⟩)))) from rfl)
  have g1 : decide ((mbox.length : Int) ≤ 65536) = decide (mbox.length ≤ 65536) := by rw [decide_eq_decide]; omega
  have g2 : decide ((data.length : Int) ≤ 65536) = decide (data.length ≤ 65536) := by rw [decide_eq_decide]; omega
  have sz0 : (ByteArray.mk mbox.toArray).size = mbox.length := by show mbox.toArray.size = _; simp
  show Calls _ _ #[.agg #[.string ⟨tag.toArray⟩, .int .i64 kind, .string ⟨mbox.toArray⟩, .slice A1 set.length k1, .int .i64 items, .int .i64 mode, .bool silent, .int .u8 flags, .slice A2 data.length k2]] w _
  rw [hn]
  clear s1 s2 l0 l1 l2 l3 hn
  generalize hd1 : decide (mbox.length ≤ 65536) = d1 at g1
  generalize hd2 : decide (data.length ≤ 65536) = d2 at g2
  have HD1 := Lib.hid hd1
  have HD2 := Lib.hid hd2
  clear hd1 hd2
  generalize allL tagN tag = d4 at *
  cases d4
  · go_enter Tryz.func27, Tryz.ntmps27
    go_wp2_with fail
    refine (AT.out _).mono ?_
    rintro e w3 ⟨rfl, rfl⟩
    go_wp2_with fail
    go_ret
    exact ⟨ret_bool (by rw [HR.out]; simp), HB0.out⟩
  by_cases hk1 : 1 ≤ kind
  rotate_left
  · have e1 : decide (kind < 1) = true := by simp; omega
    have HK := Lib.hid (show decide (1 ≤ kind) = false by simpa using hk1)
    clear hk1
    go_enter Tryz.func27, Tryz.ntmps27
    go_wp2_with fail
    refine (AT.out _).mono ?_
    rintro e w3 ⟨rfl, rfl⟩
    go_wp2_with fail
    go_ret
    exact ⟨ret_bool (by rw [HR.out, HK.out]; simp), HB0.out⟩
  by_cases hk8 : kind ≤ 8
  rotate_left
  · have e1 : decide (kind < 1) = false := by simp; omega
    have e2 : decide (8 < kind) = true := by simp; omega
    have HK := Lib.hid (show decide (kind ≤ 8) = false by simpa using hk8)
    clear hk1 hk8
    go_enter Tryz.func27, Tryz.ntmps27
    go_wp2_with fail
    refine (AT.out _).mono ?_
    rintro e w3 ⟨rfl, rfl⟩
    go_wp2_with fail
    go_ret
    exact ⟨ret_bool (by rw [HR.out, HK.out]; simp), HB0.out⟩
  have e1 : decide (kind < 1) = false := by simp; omega
  have e2 : decide (8 < kind) = false := by simp; omega
  have HK := Lib.hid (show decide (1 ≤ kind) = true by simpa using hk1)
  have HK8 := Lib.hid (show decide (kind ≤ 8) = true by simpa using hk8)
  have HKK : Hid (kind = 1 ∨ kind = 2 ∨ kind = 3 ∨ kind = 4 ∨ kind = 5 ∨ kind = 6 ∨ kind = 7 ∨ kind = 8) := Lib.hid (by omega)
  clear hk1 hk8
  go_enter Tryz.func27, Tryz.ntmps27
  go_wp2_with fail
  refine (AT.out _).mono ?_
  rintro e w3 ⟨rfl, rfl⟩
  go_upto_block 0 with (fail)
  clear e1 e2 AT HB0
  go_cut [4] (fun s4 wx => VRelR w ⟨tag, kind, mbox, set, items, mode, silent, flags, data⟩ A1 A2 k1 k2 s4 wx)
  case first =>
    have VK := Lib.hid (vrelR_mk w tag mbox data set kind items mode flags silent A1 A2 k1 k2 n HN.out)
    rcases HKK.out with rfl | rfl | rfl | rfl | rfl | rfl | rfl | rfl
    · go_wp2_with fail
      go_meet
      exact VK.out ⟨tag, 1, [], [], 0, 0, false, 0, []⟩ none none 0 0 true (by simp [ownC]) (by simp [okR]) SN.out BN.out 0 rfl
    · go_wp2_with fail
      go_meet
      exact VK.out ⟨tag, 2, [], [], 0, 0, false, 0, []⟩ none none 0 0 true (by simp [ownC]) (by simp [okR]) SN.out BN.out 0 rfl
    · go_wp2_with fail
      go_meet
      exact VK.out ⟨tag, 3, [], [], 0, 0, false, 0, []⟩ none none 0 0 true (by simp [ownC]) (by simp [okR]) SN.out BN.out 0 rfl
    · go_wp2_with fail
      go_meet
      exact VK.out ⟨tag, 4, [], [], 0, 0, false, 0, []⟩ none none 0 0 true (by simp [ownC]) (by simp [okR]) SN.out BN.out 0 rfl
    · go_wp2_with fail
      go_meet
      exact VK.out ⟨tag, 5, mbox, [], 0, 0, false, 0, []⟩ none none 0 0 d1 (by simp [ownC]) (by rw [okR_5, HD1.out]) SN.out BN.out 0 rfl
    · cases d1
      · go_wp2_with fail
        go_meet
        exact VK.out ⟨tag, 6, mbox, [], 0, 0, false, flags, data⟩ none A2 0 k2 false (by simp [ownC]) (by rw [okR_6, HD1.out]; simp) SN.out S2.out 0 rfl
      cases d2
      · go_wp2_with fail
        go_meet
        exact VK.out ⟨tag, 6, mbox, [], 0, 0, false, flags, data⟩ none A2 0 k2 false (by simp [ownC]) (by rw [okR_6, HD1.out, HD2.out]; simp) SN.out S2.out 0 rfl
      by_cases hf : flags ≤ 31
      rotate_left
      · have c0 : decide (flags ≤ 31) = false := by simpa using hf
        have HC := Lib.hid c0
        clear hf
        go_wp2_with fail
        go_meet
        exact VK.out ⟨tag, 6, mbox, [], 0, 0, false, flags, data⟩ none A2 0 k2 false (by simp [ownC]) (by rw [okR_6, HD1.out, HD2.out, HC.out]; simp) SN.out S2.out 0 rfl
      · have c0 : decide (flags ≤ 31) = true := by simpa using hf
        have HC := Lib.hid c0
        go_wp2_with fail
        go_meet
        exact VK.out ⟨tag, 6, mbox, [], 0, 0, false, flags, data⟩ none A2 0 k2 true (by simp [ownC]) (by rw [okR_6, HD1.out, HD2.out, HC.out]; simp) SN.out S2.out 0 rfl
    · by_cases hs : 0 < n
      rotate_left
      · have c0 : decide (0 < n) = false := by simp; omega
        have HC := Lib.hid c0
        clear hs
        go_wp2_with fail
        go_meet
        exact VK.out ⟨tag, 7, [], set, items, 0, false, 0, []⟩ A1 none k1 0 false (by simp [ownC]) (by rw [okR_7, HN.out, HC.out]; simp) S1.out BN.out n HN.out
      have c0 : decide (0 < n) = true := by simpa using hs
      have HC0 := Lib.hid c0
      by_cases hx1 : 1 ≤ items
      rotate_left
      · have c1 : decide (1 ≤ items) = false := by simpa using hx1
        have HC := Lib.hid c1
        clear hx1
        go_wp2_with fail
        go_meet
        exact VK.out ⟨tag, 7, [], set, items, 0, false, 0, []⟩ A1 none k1 0 false (by simp [ownC]) (by rw [okR_7, HN.out, HC0.out, HC.out]; simp) S1.out BN.out n HN.out
      have c1 : decide (1 ≤ items) = true := by simpa using hx1
      have HC1 := Lib.hid c1
      by_cases hx2 : items ≤ 31
      rotate_left
      · have c2 : decide (items ≤ 31) = false := by simpa using hx2
        have HC := Lib.hid c2
        clear hx2
        go_wp2_with fail
        go_meet
        exact VK.out ⟨tag, 7, [], set, items, 0, false, 0, []⟩ A1 none k1 0 false (by simp [ownC]) (by rw [okR_7, HN.out, HC0.out, HC1.out, HC.out]; simp) S1.out BN.out n HN.out
      have c2 : decide (items ≤ 31) = true := by simpa using hx2
      have HC2 := Lib.hid c2
      go_wp2_with fail
      go_meet
      exact VK.out ⟨tag, 7, [], set, items, 0, false, 0, []⟩ A1 none k1 0 true (by simp [ownC]) (by rw [okR_7, HN.out, HC0.out, HC1.out, HC2.out]; simp) S1.out BN.out n HN.out
    · by_cases hs : 0 < n
      rotate_left
      · have c0 : decide (0 < n) = false := by simp; omega
        have HC := Lib.hid c0
        clear hs
        go_wp2_with fail
        go_meet
        exact VK.out ⟨tag, 8, [], set, 0, mode, silent, flags, []⟩ A1 none k1 0 false (by simp [ownC]) (by rw [okR_8, HN.out, HC.out]; simp) S1.out BN.out n HN.out
      have c0 : decide (0 < n) = true := by simpa using hs
      have HC0 := Lib.hid c0
      by_cases hx1 : 0 ≤ mode
      rotate_left
      · have c1 : decide (0 ≤ mode) = false := by simpa using hx1
        have HC := Lib.hid c1
        clear hx1
        go_wp2_with fail
        go_meet
        exact VK.out ⟨tag, 8, [], set, 0, mode, silent, flags, []⟩ A1 none k1 0 false (by simp [ownC]) (by rw [okR_8, HN.out, HC0.out, HC.out]; simp) S1.out BN.out n HN.out
      have c1 : decide (0 ≤ mode) = true := by simpa using hx1
      have HC1 := Lib.hid c1
      by_cases hx2 : mode ≤ 2
      rotate_left
      · have c2 : decide (mode ≤ 2) = false := by simpa using hx2
        have HC := Lib.hid c2
        clear hx2
        go_wp2_with fail
        go_meet
        exact VK.out ⟨tag, 8, [], set, 0, mode, silent, flags, []⟩ A1 none k1 0 false (by simp [ownC]) (by rw [okR_8, HN.out, HC0.out, HC1.out, HC.out]; simp) S1.out BN.out n HN.out
      have c2 : decide (mode ≤ 2) = true := by simpa using hx2
      have HC2 := Lib.hid c2
      by_cases hx3 : flags ≤ 31
      rotate_left
      · have c3 : decide (flags ≤ 31) = false := by simpa using hx3
        have HC := Lib.hid c3
        clear hx3
        go_wp2_with fail
        go_meet
        exact VK.out ⟨tag, 8, [], set, 0, mode, silent, flags, []⟩ A1 none k1 0 false (by simp [ownC]) (by rw [okR_8, HN.out, HC0.out, HC1.out, HC2.out, HC.out]; simp) S1.out BN.out n HN.out
      have c3 : decide (flags ≤ 31) = true := by simpa using hx3
      have HC3 := Lib.hid c3
      go_wp2_with fail
      go_meet
      exact VK.out ⟨tag, 8, [], set, 0, mode, silent, flags, []⟩ A1 none k1 0 true (by simp [ownC]) (by rw [okR_8, HN.out, HC0.out, HC1.out, HC2.out, HC3.out]; simp) S1.out BN.out n HN.out
  case rest =>
    obtain ⟨o, A3, A4, k3, k4, ho, rfl, hs3, hs4, hbx⟩ := hcut
    clear SN BN g1 g2 sz0 HD1 HD2 HKK
    have OB := ownC_bd (a := ⟨tag, kind, mbox, set, items, mode, silent, flags, data⟩)
    rw [← ho.out] at OB
    have OB := Lib.hid OB
    have HX : Hid (wc.heap[w.heap.size]? = some (.cells #[.string ⟨tag.toArray⟩, .int .i64 kind, .string ⟨mbox.toArray⟩, .slice A1 set.length k1, .int .i64 items, .int .i64 mode, .bool silent, .int .u8 flags, .slice A2 data.length k2] 26 (0, 0))) := Lib.hid hbx.out.1
    have HY := Lib.hid hbx.out.2.1
    have HB : Hid (Below w.heap.size w wc) := Lib.hid hbx.out.2.2.1
    have RS : Hid (∀ W, Below w.heap.size w W → Calls Tryz.prog 23 #[.agg #[.string ⟨tag.toArray⟩, .int .i64 kind, .string ⟨mbox.toArray⟩, .slice A1 set.length k1, .int .i64 items, .int .i64 mode, .bool silent, .int .u8 flags, .slice A2 data.length k2], .agg #[.string ⟨o.tag.toArray⟩, .int .i64 o.kind, .string ⟨o.mbox.toArray⟩, .slice A3 o.set.length k3, .int .i64 o.items, .int .i64 o.mode, .bool o.silent, .int .u8 o.flags, .slice A4 o.data.length k4]] W fun e w' => e = .returned (.bool (sameC ⟨tag, kind, mbox, set, items, mode, silent, flags, data⟩ o)) ∧ Below W.heap.size W w') :=
      Lib.hid (fun W hW => rsame_any ⟨tag, kind, mbox, set, items, mode, silent, flags, data⟩ o A1 A2 A3 A4 _ k1 _ k2 _ k3 _ k4 rfl rfl rfl rfl HL1.out HL2.out (Nat.le_trans OB.out.1 HL1.out) (Nat.le_trans OB.out.2 HL2.out) W (S1.out.below hW) ((S2.out.below hW).mono hW.size) (hs3.out.below hW) ((hs4.out.below hW).mono hW.size))
    have HR2 := Lib.hid (show validR ⟨tag, kind, mbox, set, items, mode, silent, flags, data⟩ = (okR ⟨tag, kind, mbox, set, items, mode, silent, flags, data⟩ && sameC ⟨tag, kind, mbox, set, items, mode, silent, flags, data⟩ o) by rw [HR.out, HK.out, HK8.out, ho.out]; rfl)
    clear S1 S2 hs3 hs4 ho hbx OB HN HL1 HL2 HR HK HK8
    generalize okR ⟨tag, kind, mbox, set, items, mode, silent, flags, data⟩ = q at *
    generalize sameC ⟨tag, kind, mbox, set, items, mode, silent, flags, data⟩ o = d5 at *
    cases q
    · go_wp2_with fail
      go_ret
      exact ⟨ret_bool (by rw [HR2.out]; simp), HB.out⟩
    obtain ⟨x0, x1, x2, x3, x4, x5, x6, x7, x8⟩ := cells9 HX.out
    obtain ⟨y0, y1, y2, y3, y4, y5, y6, y7, y8⟩ := cells9 HY.out
    go_wp2_with fail
    refine (RS.out _ HB.out).mono ?_
    rintro e w6 ⟨rfl, hb6⟩
    go_wp2_with fail
    go_ret
    exact ⟨ret_bool (by rw [HR2.out]; simp), below_next HB.out hb6⟩
end Go.Proofs.YtpgfnlhfciacoaaGreatDoor

namespace Go.Proofs.YtpgfnlhfciacoaaGreatDoor
open Go.RowKit

theorem conv_flag8 (f : Nat) (hf : f ≤ 255) (W : World) : (convert 23 3 (.int .u8 (f : Int))).run Tryz.prog W = .ok (.int .i64 (f : Int)) W := by
  have h0 : (0 : Int) ≤ f := by omega
  have h1 : (f : Int) ≤ 255 := by omega
  go_simp
  exact IntWalk.i64_in _ (by omega)
/-- What text answers: a slice that []byte made. -/
def TxPost (T : List UInt8) (w : World) (e : Ending) (w' : World) : Prop :=
  ∃ g cap, e = .returned (.slice (some ⟨g, 0, none⟩) T.length cap) ∧ w.heap.size ≤ g ∧ T.length ≤ cap ∧ w'.heap[g]? = some (.cells (bytesRow ⟨T.toArray⟩ cap) 5 ((bytesRow ⟨T.toArray⟩ cap).size, (bytesRow ⟨T.toArray⟩ cap).size + 1)) ∧ ByAt w'.heap.size w' (some ⟨g, 0, none⟩) cap T ∧ Below w.heap.size w w'
/-- What is kept: the command in its box. -/
def TxS (w : World) (cs : Array Value) (W : World) : Prop := W.heap[w.heap.size]? = some (.cells cs 26 (0, 0)) ∧ Below w.heap.size w W ∧ w.heap.size < W.heap.size
theorem TxS.below {w W W' : World} {cs : Array Value} (h : TxS w cs W) (hb : Below W.heap.size W W') : TxS w cs W' :=
  ⟨(hb.block _ h.2.2).trans h.1, below_next h.2.1 hb, Nat.lt_of_lt_of_le h.2.2 hb.size⟩
theorem TxS.drew {w W : World} {cs : Array Value} (h : TxS w cs W) : TxS w cs { W with drawn := W.drawn + 1 } := h.below (drewN_below7 W 1)

set_option maxRecDepth 100000 in
set_option maxHeartbeats 2000000 in
theorem rtext_any (tag mbox data : List UInt8) (set : List R) (kind : Int) (items mode flags : Nat) (silent : Bool) (A1 A2 : Option Addr) (k1 k2 : Nat) (hk : 1 ≤ kind ∧ kind ≤ 8) (hf : flags ≤ 31) (hi : items ≤ 31) (hm : mode ≤ 2) (hb : ∀ r ∈ set, r.1 ≤ 4294967295 ∧ r.2 ≤ 4294967295)
    (l0 : tag.length ≤ 100000) (l3 : mbox.length ≤ 100000) (l1 : set.length ≤ 10000) (l2 : data.length ≤ 100000) (w : World) (s1 : SlAt encR 2 w A1 set) (s2 : ByAt w.heap.size w A2 k2 data) :
    Calls Tryz.prog 28 #[ciV ⟨tag, kind, mbox, set, items, mode, silent, flags, data⟩ A1 A2 k1 k2] w (TxPost (textT ⟨tag, kind, mbox, set, items, mode, silent, flags, data⟩) w) := by
  have HX := Lib.hid (heap_alloc_new w (.cells #[.string ⟨tag.toArray⟩, .int .i64 kind, .string ⟨mbox.toArray⟩, .slice A1 set.length k1, .int .i64 (items : Int), .int .i64 (mode : Int), .bool silent, .int .u8 (flags : Int), .slice A2 data.length k2] 26))
  have HB := Lib.hid (below_al w (.cells #[.string ⟨tag.toArray⟩, .int .i64 kind, .string ⟨mbox.toArray⟩, .slice A1 set.length k1, .int .i64 (items : Int), .int .i64 (mode : Int), .bool silent, .int .u8 (flags : Int), .slice A2 data.length k2] 26))
  have HZ : Hid (_ = w.heap.size + 1) := Lib.hid (World.size_alloc w (.cells #[.string ⟨tag.toArray⟩, .int .i64 kind, .string ⟨mbox.toArray⟩, .slice A1 set.length k1, .int .i64 (items : Int), .int .i64 (mode : Int), .bool silent, .int .u8 (flags : Int), .slice A2 data.length k2] 26))
  have VB := Lib.hid (fun W => refVerb_any kind (by omega) (by omega) W)
  have MB := Lib.hid (fun W => rmailbox8_any mbox (by omega) W)
  have IT := Lib.hid (fun W => ritems8_any items (by omega) W)
  have MO := Lib.hid (fun W => rmode8_any mode hm silent W)
  have LI := Lib.hid (fun W => refList8_any flags (by omega) W)
  have PR := Lib.hid (fun W (hW : Below w.heap.size w W) => refPrint_any A1 k1 set (by omega) hb W (s1.below hW))
  have LT := Lib.hid (fun W (hW : Below w.heap.size w W) => refLiteral_any w.heap.size A2 k2 data (by omega) W (s2.grow hW))
  have zt : (ByteArray.mk tag.toArray).size ≤ 100000 := by rw [bsz]; exact l0
  have zv : (ByteArray.mk (verbZ kind).toArray).size ≤ 7 := by rw [bsz]; exact verbZ_len kind
  have zm : (ByteArray.mk (mboxT mbox).toArray).size ≤ 200014 := by rw [bsz]; have := mboxT_len (b := mbox) (by omega); omega
  have zi : (ByteArray.mk (itemsT items).toArray).size ≤ 60 := by rw [bsz]; exact itemsT_len8 hi
  have zo : (ByteArray.mk (modeT mode silent).toArray).size ≤ 13 := by rw [bsz]; exact modeT_len8 mode silent
  have zl : (ByteArray.mk (listL flags).toArray).size ≤ 60 := by rw [bsz]; exact listL_len8 hf
  have zp : (ByteArray.mk (printL set).toArray).size ≤ 220000 := by rw [bsz]; have := printL_len8 hb; omega
  have zd : (ByteArray.mk (literalL data).toArray).size ≤ 100014 := by rw [bsz]; have := lit_len8 (b := data) (by omega); omega
  have ZS : Hid (spB.size = 1) := Lib.hid rfl
  have CF := Lib.hid (fun W => conv_flag8 flags (by omega) W)
  have f0 : (0 : Int) ≤ (flags : Int) := by omega
  have f1 : (flags : Int) ≤ 255 := by omega
  have HK : Hid (kind = 1 ∨ kind = 2 ∨ kind = 3 ∨ kind = 4 ∨ kind = 5 ∨ kind = 6 ∨ kind = 7 ∨ kind = 8) := Lib.hid (by omega)
  clear s1 s2 l0 l1 l2 l3 hb hi hm hk
  unfold ciV at *
  go_enter Tryz.func28, Tryz.ntmps28
  go_upto_region 1 with (fail)
  rename_i K hK
  generalize w.alloc (.cells #[.string ⟨tag.toArray⟩, .int .i64 kind, .string ⟨mbox.toArray⟩, .slice A1 set.length k1, .int .i64 (items : Int), .int .i64 (mode : Int), .bool silent, .int .u8 (flags : Int), .slice A2 data.length k2] 26) = W2 at *
  have C0 : Hid (TxS w #[.string ⟨tag.toArray⟩, .int .i64 kind, .string ⟨mbox.toArray⟩, .slice A1 set.length k1, .int .i64 (items : Int), .int .i64 (mode : Int), .bool silent, .int .u8 (flags : Int), .slice A2 data.length k2] W2) := Lib.hid ⟨HX.out, HB.out, by have := HZ.out; omega⟩
  have C1 := Lib.hid C0.out.drew
  clear HX HB HZ C0
  have ST := fun T hT1 => ta_step w.heap.size ⟨tag.toArray⟩ ⟨(verbZ kind).toArray⟩ kind T hT1 (TxS w #[.string ⟨tag.toArray⟩, .int .i64 kind, .string ⟨mbox.toArray⟩, .slice A1 set.length k1, .int .i64 (items : Int), .int .i64 (mode : Int), .bool silent, .int .u8 (flags : Int), .slice A2 data.length k2])
    (fun W h => by have c0 := cell_of_row _ _ 0 _ _ _ h.1; simp [go_sem, c0]) (fun W h => by have c0 := cell_of_row _ _ 1 _ _ _ h.1; simp [go_sem, c0])
    (fun W h => (VB.out W).mono fun e w' q => ⟨q.1, h.below q.2⟩) (by rw [ZS.out]; omega) (by rw [ByteArray.size_append, ZS.out]; omega)
  refine drawn_region (ops := taOps) (anc := dahead taOps) (V := taV w.heap.size ⟨tag.toArray⟩ ⟨(verbZ kind).toArray⟩ kind) (S := fun _ W => TxS w #[.string ⟨tag.toArray⟩, .int .i64 kind, .string ⟨mbox.toArray⟩, .slice A1 set.length k1, .int .i64 (items : Int), .int .i64 (mode : Int), .bool silent, .int .u8 (flags : Int), .slice A2 data.length k2] W) (R := fun _ _ => False) (by kernel_rfl) ta_fit C1.out (ST _ rfl) (fun c a w' _ _ _ h => h.elim) (fun W h => ?_)
  rw [dfin_put ta_fit, ta_size, ta_put]
  have HS := Lib.hid h
  have hs1 : (ByteArray.mk tag.toArray ++ spB ++ ByteArray.mk (verbZ kind).toArray).data.toList = tag ++ (32 :: verbZ kind) := by rw [bsp, bapp]; simp
  have zs : (ByteArray.mk tag.toArray ++ spB ++ ByteArray.mk (verbZ kind).toArray).size ≤ 100010 := by rw [ByteArray.size_append, ByteArray.size_append, ZS.out]; omega
  have HS1 := Lib.hid hs1
  generalize ByteArray.mk tag.toArray ++ spB ++ ByteArray.mk (verbZ kind).toArray = sv at *
  clear ST C1 h hs1 zt zv VB
  obtain ⟨x0, x1, x2, x3, x4, x5, x6, x7, x8⟩ := cells9 HS.out.1
  refine hK _ _ ?_
  go_upto_block 0 with (fail)
  go_cut [3] (fun s3 wx => ∃ T : ByteArray, s3 = .string T ∧ Hid (T.data.toList = textT ⟨tag, kind, mbox, set, items, mode, silent, flags, data⟩) ∧ T.size ≤ 900000 ∧ Hid (Below w.heap.size w wx))
  case first =>
    have HT := Lib.hid (show textT ⟨tag, kind, mbox, set, items, mode, silent, flags, data⟩ = (tag ++ (32 :: verbZ kind)) ++ restT ⟨tag, kind, mbox, set, items, mode, silent, flags, data⟩ from rfl)
    rcases HK.out with rfl | rfl | rfl | rfl | rfl | rfl | rfl | rfl
    · go_wp2_with fail
      go_meet
      exact ⟨sv, rfl, Lib.hid (by rw [HT.out, HS1.out]; simp [restT]), by omega, Lib.hid HS.out.2.1⟩
    · go_wp2_with fail
      go_meet
      exact ⟨sv, rfl, Lib.hid (by rw [HT.out, HS1.out]; simp [restT]), by omega, Lib.hid HS.out.2.1⟩
    · go_wp2_with fail
      go_meet
      exact ⟨sv, rfl, Lib.hid (by rw [HT.out, HS1.out]; simp [restT]), by omega, Lib.hid HS.out.2.1⟩
    · go_wp2_with fail
      go_meet
      exact ⟨sv, rfl, Lib.hid (by rw [HT.out, HS1.out]; simp [restT]), by omega, Lib.hid HS.out.2.1⟩
    · have HM := Lib.hid (show (ByteArray.mk (mboxT mbox).toArray).data.toList = mboxT mbox from rfl)
      generalize ByteArray.mk (mboxT mbox).toArray = mb at *
      go_wp2_with fail
      refine (MB.out _).mono ?_
      rintro e w5 ⟨rfl, hb5⟩
      have HB5 := Lib.hid (HS.out.below hb5)
      clear x0 x1 x2 x3 x4 x5 x6 x7 x8 hb5
      go_wp2_with fail
      go_meet
      exact ⟨_, rfl, Lib.hid (by rw [HT.out]; simp [restT, ByteArray.data_append, HS1.out, HM.out]), by have : (ByteArray.mk #[32]).size = 1 := rfl; simp only [ByteArray.size_append, this]; omega, Lib.hid HB5.out.2.1⟩
    · have HM := Lib.hid (show (ByteArray.mk (mboxT mbox).toArray).data.toList = mboxT mbox from rfl)
      have HD := Lib.hid (show (ByteArray.mk (literalL data).toArray).data.toList = literalL data from rfl)
      have HLL := Lib.hid (show (ByteArray.mk (listL flags).toArray).data.toList = listL flags from rfl)
      have LT2 : Hid (∀ W, Below w.heap.size w W → Calls Tryz.prog 53 #[.slice A2 data.length k2] W fun e w' => ∃ A' c' m, e = .returned (.slice A' m c') ∧ (convert 24 9 (.slice A' m c')).run Tryz.prog w' = .ok (.string ⟨(literalL data).toArray⟩) w' ∧ Below W.heap.size W w') := Lib.hid (fun W hW => (LT.out W hW).mono (fun e w' ⟨A', c', h1, h2, h3⟩ => ⟨A', c', _, h1, convS _ w' A' c' _ (literalL data) h2 rfl, h3⟩))
      generalize ByteArray.mk (mboxT mbox).toArray = mb at *
      generalize ByteArray.mk (literalL data).toArray = db at *
      generalize ByteArray.mk (listL flags).toArray = lb at *
      by_cases hfl : 0 < flags
      · have d1 : decide ((0 : Int) < (flags : Int)) = true := by simp; omega
        have d2 : decide (0 < flags) = true := by simpa using hfl
        have HF := Lib.hid hfl
        have cf := CF.out
        clear hfl
        go_wp2_with fail
        refine (MB.out _).mono ?_
        rintro e w5 ⟨rfl, hb5⟩
        have HB5 := Lib.hid (HS.out.below hb5)
        clear x0 x1 x2 x3 x4 x5 x6 x7 x8 hb5
        obtain ⟨x0, x1, x2, x3, x4, x5, x6, x7, x8⟩ := cells9 HB5.out.1
        go_wp2_with fail
        refine (LI.out _).mono ?_
        rintro e w6 ⟨rfl, rfl⟩
        go_wp2_with fail
        refine (LT2.out _ HB5.out.2.1).mono ?_
        rintro e w7 ⟨A', c', m, rfl, cv, hb7⟩
        have HB7 := Lib.hid (HB5.out.below hb7)
        clear x0 x1 x2 x3 x4 x5 x6 x7 x8 hb7
        go_wp2_with fail
        go_meet
        exact ⟨_, rfl, Lib.hid (by rw [HT.out]; simp [restT, ByteArray.data_append, HS1.out, HM.out, HD.out, HLL.out, HF.out]), by have : (ByteArray.mk #[32]).size = 1 := rfl; simp only [ByteArray.size_append, this]; omega, Lib.hid HB7.out.2.1⟩
      · have d1 : decide ((0 : Int) < (flags : Int)) = false := by simp; omega
        have d2 : decide (0 < flags) = false := by simpa using hfl
        have HF := Lib.hid hfl
        clear hfl
        go_wp2_with fail
        refine (MB.out _).mono ?_
        rintro e w5 ⟨rfl, hb5⟩
        have HB5 := Lib.hid (HS.out.below hb5)
        clear x0 x1 x2 x3 x4 x5 x6 x7 x8 hb5
        obtain ⟨x0, x1, x2, x3, x4, x5, x6, x7, x8⟩ := cells9 HB5.out.1
        go_wp2_with fail
        refine (LT2.out _ HB5.out.2.1).mono ?_
        rintro e w7 ⟨A', c', m, rfl, cv, hb7⟩
        have HB7 := Lib.hid (HB5.out.below hb7)
        clear x0 x1 x2 x3 x4 x5 x6 x7 x8 hb7
        go_wp2_with fail
        go_meet
        exact ⟨_, rfl, Lib.hid (by rw [HT.out]; have := HF.out; simp [restT, ByteArray.data_append, HS1.out, HM.out, HD.out, show flags = 0 by omega]), by have : (ByteArray.mk #[32]).size = 1 := rfl; simp only [ByteArray.size_append, this]; omega, Lib.hid HB7.out.2.1⟩
    · have HP := Lib.hid (show (ByteArray.mk (printL set).toArray).data.toList = printL set from rfl)
      have HI := Lib.hid (show (ByteArray.mk (itemsT items).toArray).data.toList = itemsT items from rfl)
      generalize ByteArray.mk (printL set).toArray = pb at *
      generalize ByteArray.mk (itemsT items).toArray = ib at *
      clear x0 x1 x2 x3 x4 x5 x6 x7 x8
      go_upto_region 11 with (fail)
      have C1 := Lib.hid HS.out.drew
      have ST := fun T hT1 hT3 => tb_step w.heap.size sv pb ib (.slice A1 set.length k1) (items : Int) T hT1 hT3 (TxS w #[.string ⟨tag.toArray⟩, .int .i64 7, .string ⟨mbox.toArray⟩, .slice A1 set.length k1, .int .i64 (items : Int), .int .i64 (mode : Int), .bool silent, .int .u8 (flags : Int), .slice A2 data.length k2]) (fun W h => by have c0 := cell_of_row _ _ 3 _ _ _ h.1; simp [go_sem, c0]) (fun W h => by have c0 := cell_of_row _ _ 4 _ _ _ h.1; simp [go_sem, c0])  (fun W h => (PR.out W h.2.1).mono fun e w' q => ⟨q.1, h.below q.2⟩) (fun W h => (IT.out W).mono fun e w' q => ⟨q.1, q.2 ▸ h⟩) (by rw [ZS.out]; omega) (by simp only [ByteArray.size_append, ZS.out]; omega) (by simp only [ByteArray.size_append, ZS.out]; omega) (by simp only [ByteArray.size_append, ZS.out]; omega)
      refine drawn_region (ops := tbOps) (anc := dahead tbOps) (V := tbV w.heap.size sv pb ib (.slice A1 set.length k1) (items : Int)) (S := fun _ W => TxS w #[.string ⟨tag.toArray⟩, .int .i64 7, .string ⟨mbox.toArray⟩, .slice A1 set.length k1, .int .i64 (items : Int), .int .i64 (mode : Int), .bool silent, .int .u8 (flags : Int), .slice A2 data.length k2] W) (R := fun _ _ => False) (by kernel_rfl) tb_fit C1.out (ST _ rfl rfl) (fun c a w' _ _ _ h => h.elim) (fun W h => ?_)
      rw [dfin_put tb_fit, tb_size, tb_put]
      have HW := Lib.hid h
      clear ST C1 h
      go_wp2_with fail
      go_meet
      exact ⟨_, rfl, Lib.hid (by rw [HT.out]; simp [restT, ByteArray.data_append, HS1.out, HP.out, HI.out, spB]), by simp only [ByteArray.size_append, ZS.out]; omega, Lib.hid HW.out.2.1⟩
    · have HP := Lib.hid (show (ByteArray.mk (printL set).toArray).data.toList = printL set from rfl)
      have HO := Lib.hid (show (ByteArray.mk (modeT mode silent).toArray).data.toList = modeT mode silent from rfl)
      have HLL := Lib.hid (show (ByteArray.mk (listL flags).toArray).data.toList = listL flags from rfl)
      generalize ByteArray.mk (printL set).toArray = pb at *
      generalize ByteArray.mk (modeT mode silent).toArray = ob at *
      generalize ByteArray.mk (listL flags).toArray = lb at *
      clear x0 x1 x2 x3 x4 x5 x6 x7 x8
      go_upto_region 13 with (fail)
      have C1 := Lib.hid HS.out.drew
      have ST := fun T hT1 hT3 => tc_step w.heap.size sv pb ob lb (.slice A1 set.length k1) (mode : Int) (flags : Int) silent T hT1 hT3 (TxS w #[.string ⟨tag.toArray⟩, .int .i64 8, .string ⟨mbox.toArray⟩, .slice A1 set.length k1, .int .i64 (items : Int), .int .i64 (mode : Int), .bool silent, .int .u8 (flags : Int), .slice A2 data.length k2]) (fun W h => by have c0 := cell_of_row _ _ 3 _ _ _ h.1; simp [go_sem, c0]) (fun W h => by have c0 := cell_of_row _ _ 5 _ _ _ h.1; simp [go_sem, c0]) (fun W h => by have c0 := cell_of_row _ _ 6 _ _ _ h.1; simp [go_sem, c0]) (fun W h => by have c0 := cell_of_row _ _ 7 _ _ _ h.1; simp [go_sem, c0]) CF.out (fun W h => (PR.out W h.2.1).mono fun e w' q => ⟨q.1, h.below q.2⟩) (fun W h => (MO.out W).mono fun e w' q => ⟨q.1, h.below q.2⟩) (fun W h => (LI.out W).mono fun e w' q => ⟨q.1, q.2 ▸ h⟩) (by rw [ZS.out]; omega) (by simp only [ByteArray.size_append, ZS.out]; omega) (by simp only [ByteArray.size_append, ZS.out]; omega) (by simp only [ByteArray.size_append, ZS.out]; omega) (by simp only [ByteArray.size_append, ZS.out]; omega) (by simp only [ByteArray.size_append, ZS.out]; omega)
      refine drawn_region (ops := tcOps) (anc := dahead tcOps) (V := tcV w.heap.size sv pb ob lb (.slice A1 set.length k1) (mode : Int) (flags : Int) silent) (S := fun _ W => TxS w #[.string ⟨tag.toArray⟩, .int .i64 8, .string ⟨mbox.toArray⟩, .slice A1 set.length k1, .int .i64 (items : Int), .int .i64 (mode : Int), .bool silent, .int .u8 (flags : Int), .slice A2 data.length k2] W) (R := fun _ _ => False) (by kernel_rfl) tc_fit C1.out (ST _ rfl rfl) (fun c a w' _ _ _ h => h.elim) (fun W h => ?_)
      rw [dfin_put tc_fit, tc_size, tc_put]
      have HW := Lib.hid h
      clear ST C1 h
      go_wp2_with fail
      go_meet
      exact ⟨_, rfl, Lib.hid (by rw [HT.out]; simp [restT, ByteArray.data_append, HS1.out, HP.out, HO.out, HLL.out, spB]), by simp only [ByteArray.size_append, ZS.out]; omega, Lib.hid HW.out.2.1⟩
  case rest =>
    obtain ⟨T, rfl, hT, hz, hB⟩ := hcut
    obtain ⟨cap, w9, hrun, hb9, hby, hcp, _, hbk⟩ := convB wc T T.size rfl
    have hTl : T = ⟨(textT ⟨tag, kind, mbox, set, items, mode, silent, flags, data⟩).toArray⟩ := str_of hT.out
    have hsz : T.size = (textT ⟨tag, kind, mbox, set, items, mode, silent, flags, data⟩).length := by rw [hTl, bsz]
    have HP : Hid (TxPost (textT ⟨tag, kind, mbox, set, items, mode, silent, flags, data⟩) w (.returned (.slice (some ⟨wc.heap.size, 0, none⟩) T.size cap)) w9) := Lib.hid ⟨wc.heap.size, cap, by rw [hsz], hB.out.size, by rw [← hsz]; exact hcp, by rw [← hTl]; exact hbk, by rw [hT.out] at hby; exact hby, below_next hB.out hb9⟩
    clear hb9 hby hcp hbk hTl hsz hT HS HS1 MB IT MO LI PR LT CF HK x0 x1 x2 x3 x4 x5 x6 x7 x8
    go_wp2_with fail
    go_ret
    exact HP.out
end Go.Proofs.YtpgfnlhfciacoaaGreatDoor
