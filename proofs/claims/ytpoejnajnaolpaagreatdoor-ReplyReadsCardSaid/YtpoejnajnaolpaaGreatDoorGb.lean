/- WHAT THE WORLD OWES: the table of powers of ten and the two errors of strconv, and that they outlast whatever is made behind the heap. Plain facts, no walk. -/
import Derived.Test.YtpoejnajnaolpaaGreatDoorGa
import Derived.Test.YtpoejnajnaolpaaGreatDoorShelf
import Derived.BigCall
import Derived.Lib.SmallJoins
import Derived.BigGuard
import Derived.Lib.ParseIntBCases
import Derived.Laws.BitsAllLaws
namespace Go.Proofs.YtpoejnajnaolpaaGreatDoor
open Go.RowKit

/-- The library's variables hold what the program's text lays in them. -/
structure Env (w : World) : Prop where
  tab : Lib.TabIs Tryz.prog w "internal/strconv.uint64pow10" .u64 Lib.pow10Tab
  syn : ∃ tp p, w.var? Tryz.prog "strconv.ErrSyntax" = some #[.iface tp p]
  rng : ∃ tp p, w.var? Tryz.prog "strconv.ErrRange" = some #[.iface tp p]

theorem globTab : Tryz.prog.globalNamed "internal/strconv.uint64pow10" = some 1 := by kernel_rfl
theorem globSyn : Tryz.prog.globalNamed "strconv.ErrSyntax" = some 2 := by kernel_rfl
theorem globRng : Tryz.prog.globalNamed "strconv.ErrRange" = some 3 := by kernel_rfl

theorem Env.below {w w' : World} (h : Env w) (hb : Below w.heap.size w w') : Env w' := by
  obtain ⟨t, ⟨a, p, s⟩, ⟨b, q, r⟩⟩ := h
  exact ⟨var?_below hb globTab (var_lt globTab t) t, ⟨a, p, var?_below hb globSyn (var_lt globSyn s) s⟩, ⟨b, q, var?_below hb globRng (var_lt globRng r) r⟩⟩
theorem Env.alloc {w : World} (h : Env w) (o : Obj) : Env (w.alloc o) := h.below ((Below.refl _ _).alloc (Nat.le_refl _) _)

end Go.Proofs.YtpoejnajnaolpaaGreatDoor

namespace Go.Proofs.YtpoejnajnaolpaaGreatDoor
open Go.RowKit Go.Sort Go.Lib Go.Joins

theorem holds_zero0 (w : World) (T : TypeId) (nd : Nat) (hs : nd ≤ 24) : Holds (fun (b : UInt8) => Value.int .u8 (b.toNat : Int)) (w.alloc (.cells zeros24 T)) w.heap.size 0 (Array.replicate nd (0 : UInt8)) := fun j hj => by
  have hj' : j < nd := by simpa using hj
  refine ⟨?_, World.frozen?_alloc_new _ _ _ _⟩
  rw [World.cell?_alloc_new, zeros24_at _ (by omega), getElem!_pos _ j hj]
  simp

theorem fin_row (w : World) (o : Obj) (dk : Array UInt8) (k : Nat) : ∃ os, (putRow (fun (b : UInt8) => Value.int .u8 (b.toNat : Int)) (w.alloc o) w.heap.size 0 dk).drewN k = grow (w.drewN k) os := by
  rw [alloc_eq_grow]
  obtain ⟨os', _, e⟩ := putRow_grow_new (fun (b : UInt8) => Value.int .u8 (b.toNat : Int)) w #[o] w.heap.size 0 dk (Nat.le_refl _)
  exact ⟨os', by rw [e]; rfl⟩

/-- The library's contracts, in this program's numbers. -/
theorem small_any (i : Nat) (h : i < 100) (w : World) :
    Calls Tryz.prog 133 #[.int .i64 i] w fun e w' => e = .returned (.string ⟨(decDigits i).toArray⟩) ∧ w' = w := Any.internal_strconv_small Tryz.lays283 i h w
theorem numDigits_any (u : Nat) (h1 : 1 ≤ u) (h2 : u < 18446744073709551616) (w : World) (htab : TabIs Tryz.prog w "internal/strconv.uint64pow10" .u64 pow10Tab) :
    Calls Tryz.prog 134 #[.int .u64 u] w fun e w' => e = .returned (.int .i64 (nDigits u)) ∧ w' = w := Any.internal_strconv_numDigits Tryz.laysM284 u h1 h2 w htab
theorem formatBase10_any (blk off cap : Nat) (u : Nat) (d : Array UInt8) (w : World) (hH : Holds (fun (b : UInt8) => Value.int .u8 (b.toNat : Int)) w blk off d) (hu : u < 10 ^ d.size) (hu64 : u < 18446744073709551616) (hsz : d.size < 4611686018427387904) :
    Calls Tryz.prog 135 #[.slice (some ⟨blk, off, none⟩) d.size cap, .int .u64 u] w fun e w' =>
      e = .returned (.tuple #[]) ∧ ∃ (n v' : Nat) (dk : Array UInt8), w' = (putRow (fun (b : UInt8) => Value.int .u8 (b.toNat : Int)) w blk off dk).drewN n ∧ FmtInv d.size u 0 v' dk := Any.internal_strconv_formatBase10 Tryz.lays285 blk off cap u d w hH hu hu64 hsz

theorem arr24 : Tryz.prog.arrayLen 146 = 24 := by kernel_rfl
theorem elem24 : Tryz.prog.elem 146 = 5 := by kernel_rfl

set_option maxHeartbeats 1000000 in
set_option maxRecDepth 100000 in
theorem formatUint_any (u : Nat) (hu64 : u < 18446744073709551616) (w : World) (henv : Env w) :
    Calls Tryz.prog 121 #[.int .u64 u, .int .i64 10] w fun e w' => e = .returned (.string ⟨(decDigits u).toArray⟩) ∧ Below w.heap.size w w' := by
  by_cases hs : u < 100
  · go_enter Tryz.func121, Tryz.ntmps121
    go_wp2_with (go_at_call 133; refine (small_any u hs _).mono ?_; rintro e w' ⟨rfl, rfl⟩)
    go_ret
    exact ⟨rfl, Below.refl _ _⟩
  · have hu1 : 1 ≤ u := by omega
    have hnd20 : nDigits u ≤ 20 := by have := numDigits_eq u hu1 hu64; split at this <;> omega
    have hb3 : nDigits u ≤ 24 := by omega
    have hsl : ∀ W, (Instr.sliceAt 146 (.pointer (some ⟨w.heap.size, 0, none⟩)) none (some (.int .i64 (nDigits u : Int))) none).run Tryz.prog W = .ok (.slice (some ⟨w.heap.size, 0, none⟩) (nDigits u) 24) W := fun W => by
      rw [run_sliceAt_array_h W 146 ⟨w.heap.size, 0, none⟩ (by simp [Program.arrayLen, Program.elem, Tryz.underlying146]) .i64 (nDigits u : Int) (by omega) (by rw [arr24]; omega)]
      rw [arr24, elem24]
      go_simp
    have hH0 := holds_zero0 w 146 (nDigits u) (by omega)
    have hfmt := formatBase10_any w.heap.size 0 24 u (Array.replicate (nDigits u) 0) (w.alloc (.cells zeros24 146)) hH0 (by rw [Array.size_replicate]; exact lt_pow_nDigits u) hu64 (by rw [Array.size_replicate]; omega)
    rw [Array.size_replicate] at hfmt
    have HH0 := Lib.hid hH0
    have htab := henv.tab
    clear hH0 henv
    go_enter Tryz.func121, Tryz.ntmps121
    go_wp2_with (go_at_call 134; refine (numDigits_any u hu1 hu64 _ (tabIs_alloc htab _)).mono ?_; rintro e w' ⟨rfl, rfl⟩)
    refine hfmt.mono ?_
    rintro e w' ⟨rfl, k, v', dk, rfl, hF⟩
    have hcv : (convert 22 9 (.slice (some ⟨w.heap.size, 0, none⟩) (nDigits u) 24)).run Tryz.prog ((putRow (fun (b : UInt8) => Value.int .u8 (b.toNat : Int)) (w.alloc (.cells zeros24 146)) w.heap.size 0 dk).drewN k) = .ok (.string ⟨(decDigits u).toArray⟩) ((putRow (fun (b : UInt8) => Value.int .u8 (b.toNat : Int)) (w.alloc (.cells zeros24 146)) w.heap.size 0 dk).drewN k) := by
      have h := run_convert_bytes_back (P := Tryz.prog) ((putRow (fun (b : UInt8) => Value.int .u8 (b.toNat : Int)) (w.alloc (.cells zeros24 146)) w.heap.size 0 dk).drewN k) 22 9 5 ⟨w.heap.size, 0, none⟩ 24 (decDigits u) Tryz.underlying22 Tryz.underlying5 Tryz.underlying9 (fun j hj => by
        rw [row_is_numeral hF j hj, add_plain, World.cell?_drewN]
        exact cell?_putRow (fun (b : UInt8) => Value.int .u8 (b.toNat : Int)) _ w.heap.size 0 _ dk HH0.out (by rw [hF.size, Array.size_replicate]) j (by rw [hF.size]; rw [decDigits_length] at hj; exact hj))
      rw [decDigits_length] at h
      exact h
    go_wp2
    go_ret
    obtain ⟨os, eo⟩ := fin_row w (.cells zeros24 146) dk k
    exact ⟨rfl, by rw [eo]; exact below_grow _ _ _⟩

theorem strFormatUint_any (u : Nat) (hu64 : u < 18446744073709551616) (w : World) (henv : Env w) :
    Calls Tryz.prog 112 #[.int .u64 u, .int .i64 10] w fun e w' => e = .returned (.string ⟨(decDigits u).toArray⟩) ∧ Below w.heap.size w w' := by
  have C := Lib.hid (formatUint_any u hu64 w henv)
  clear henv
  go_enter Tryz.func112, Tryz.ntmps112
  go_wp2_with (go_at_call 121; refine C.out.mono ?_; rintro e w' ⟨rfl, hb⟩)
  go_ret
  exact ⟨rfl, hb⟩

/-- The project's decimal form. -/
theorem decimal_any (u : Nat) (h : u ≤ 4294967295) (w : World) (henv : Env w) :
    Calls Tryz.prog 89 #[.int .u32 u] w fun e w' => e = .returned (.string ⟨(decDigits u).toArray⟩) ∧ Below w.heap.size w w' := by
  have C := Lib.hid (strFormatUint_any u (by omega) w henv)
  clear henv
  go_enter Tryz.func89, Tryz.ntmps89
  go_wp2_with (go_at_call 112; refine C.out.mono ?_; rintro e w' ⟨rfl, hb⟩)
  go_ret
  exact ⟨rfl, hb⟩

end Go.Proofs.YtpoejnajnaolpaaGreatDoor

namespace Go.Proofs.YtpoejnajnaolpaaGreatDoor
open Go.RowKit
open Go.Lib hiding intOf

theorem nd_le : ∀ (k u : Nat), 1 ≤ k → u < 10 ^ k → nDigits u ≤ k
  | 0, _, h, _ => by omega
  | k + 1, u, _, h => by
    by_cases hs : u < 10
    · rw [nDigits_small hs]; omega
    · rw [nDigits_big hs]
      have hk : 1 ≤ k := by
        rcases Nat.eq_zero_or_pos k with e | e
        · subst e; simp at h; omega
        · exact e
      have := nd_le k (u / 10) hk (by rw [Nat.pow_succ] at h; omega)
      omega
theorem dec_len {u : Nat} (h : u ≤ 4294967295) : (decDigits u).length ≤ 10 := by rw [decDigits_length]; exact nd_le 10 u (by omega) (by omega)
theorem digit_at : ∀ d : Fin 10, (ByteArray.mk #[48, 49, 50, 51, 52, 53, 54, 55, 56, 57]).extract d.val (d.val + 1) = ⟨#[UInt8.ofNat (48 + d.val)]⟩ := by decide +kernel
theorem dec_front (d : Nat) (hd : d < 10) (acc : List UInt8) : (ByteArray.mk #[48, 49, 50, 51, 52, 53, 54, 55, 56, 57]).extract d (d + 1) ++ ByteArray.mk acc.toArray = ⟨(UInt8.ofNat (48 + d) :: acc).toArray⟩ := by
  rw [digit_at ⟨d, hd⟩]
  apply ByteArray.ext
  simp [ByteArray.data_append]
theorem dec_step {m u : Nat} {acc : List UInt8} (h : decDigits m ++ acc = decDigits u) (hm : 10 ≤ m) : decDigits (m / 10) ++ (UInt8.ofNat (48 + m % 10) :: acc) = decDigits u := by
  rw [← h, decDigits.eq_1 m, dif_neg (by omega)]
  simp
theorem dec_last {m u : Nat} {acc : List UInt8} (h : decDigits m ++ acc = decDigits u) (hm : ¬ 10 ≤ m) : UInt8.ofNat (48 + m) :: acc = decDigits u := by
  rw [← h, decDigits_one (by omega)]
  rfl

end Go.Proofs.YtpoejnajnaolpaaGreatDoor

namespace Go.Proofs.YtpoejnajnaolpaaGreatDoor
open Go.RowKit
open Go.Lib hiding intOf

def isDig (c : UInt8) : Bool := decide (48 ≤ c.toNat ∧ c.toNat ≤ 57)
def valF (acc : Nat) (l : List UInt8) : Nat := l.foldl (fun a c => a * 10 + (c.toNat - 48)) acc

theorem valF_cons (acc : Nat) (c : UInt8) (l : List UInt8) : valF acc (c :: l) = valF (acc * 10 + (c.toNat - 48)) l := by unfold valF; rw [List.foldl_cons]
theorem valF_append (acc : Nat) (a b : List UInt8) : valF acc (a ++ b) = valF (valF acc a) b := by simp [valF]
theorem valF_ge : ∀ (l : List UInt8) (acc : Nat), acc ≤ valF acc l
  | [], acc => Nat.le_refl _
  | c :: l, acc => by rw [valF_cons]; have := valF_ge l (acc * 10 + (c.toNat - 48)); omega
theorem valF_lt : ∀ (l : List UInt8) (acc k : Nat), l.all isDig = true → acc < 10 ^ k → valF acc l < 10 ^ (k + l.length)
  | [], acc, k, _, h => h
  | c :: l, acc, k, ha, h => by
    simp only [List.all_cons, Bool.and_eq_true, isDig, decide_eq_true_eq] at ha
    rw [valF_cons, List.length_cons, show k + (l.length + 1) = (k + 1) + l.length by omega]
    exact valF_lt l _ _ ha.2 (by rw [Nat.pow_succ]; omega)

theorem dig_of (d : Nat) (h : d < 10) : (UInt8.ofNat (48 + d)).toNat = 48 + d := by rw [UInt8.toNat_ofNat']; exact Nat.mod_eq_of_lt (by omega)
theorem dec_facts (u : Nat) : (decDigits u).all isDig = true ∧ valF 0 (decDigits u) = u ∧ decDigits u ≠ [] := by
  induction u using Nat.strongRecOn with
  | _ u ih =>
    by_cases h : u < 10
    · rw [decDigits_one h]
      have := dig_of u h
      refine ⟨?_, ?_, by simp⟩
      · simp only [List.all_cons, List.all_nil, Bool.and_true, isDig, this]; simp; omega
      · rw [valF_cons, this]; simp only [valF, List.foldl_nil]; omega
    · rw [decDigits.eq_1 u, dif_neg h]
      obtain ⟨h1, h2, h3⟩ := ih (u / 10) (by omega)
      have := dig_of (u % 10) (by omega)
      refine ⟨?_, ?_, by simp⟩
      · simp only [List.all_append, h1, List.all_cons, List.all_nil, Bool.and_true, Bool.true_and, isDig, this]; simp; omega
      · rw [valF_append, h2, valF_cons, this]; simp only [valF, List.foldl_nil]; omega

end Go.Proofs.YtpoejnajnaolpaaGreatDoor

namespace Go.Proofs.YtpoejnajnaolpaaGreatDoor
open Go.RowKit Go.Sort Go.Lib Go.Joins

/-- What the project's Number makes of a string's bytes: a number whose decimal form they are. -/
def numOf (l : List UInt8) : Option Nat :=
  match parseUintB 32 l with
  | .ok u => if decDigits u = l then some u else none
  | _ => none
end Go.Proofs.YtpoejnajnaolpaaGreatDoor

namespace Go.Proofs.YtpoejnajnaolpaaGreatDoor
open Go.RowKit
open Go.Lib hiding intOf

theorem parseM_digits (M : Nat) (hM : M < 1844674407370955162) : ∀ (l : List UInt8) (acc : Nat), l.all isDig = true → valF acc l ≤ M → parseUintM M acc l = .ok (valF acc l)
  | [], acc, _, _ => rfl
  | c :: l, acc, ha, h => by
    simp only [List.all_cons, Bool.and_eq_true, isDig, decide_eq_true_eq] at ha
    have h1 := valF_ge l (acc * 10 + (c.toNat - 48))
    rw [valF_cons] at h ⊢
    rw [parseUintM, if_pos ha.1, if_neg (by omega), if_neg (by omega)]
    exact parseM_digits M hM l _ ha.2 h

theorem numOf_dec {u : Nat} (h : u ≤ 4294967295) : numOf (decDigits u) = some u := by
  obtain ⟨h1, h2, h3⟩ := dec_facts u
  unfold numOf parseUintB
  rw [if_neg h3, show (2 : Nat) ^ 32 - 1 = 4294967295 from rfl, parseM_digits 4294967295 (by omega) _ _ h1 (by rw [h2]; exact h), h2]
  simp
theorem numOf_some {l : List UInt8} {u : Nat} (h : numOf l = some u) : u ≤ 4294967295 ∧ decDigits u = l := by
  unfold numOf at h
  rcases hp : parseUintB 32 l with v | _ | _
  · rw [hp] at h
    simp only at h
    split at h
    · rename_i hd
      obtain rfl := Option.some.inj h
      exact ⟨by have := parseUintB_le hp; simpa using this, hd⟩
    · cases h
  · rw [hp] at h; cases h
  · rw [hp] at h; cases h
theorem numOf_not {l : List UInt8} (h : ∀ u, u ≤ 4294967295 → decDigits u ≠ l) : numOf l = none := by
  cases hn : numOf l with
  | none => rfl
  | some u => obtain ⟨a, b⟩ := numOf_some hn; exact absurd b (h u a)
theorem numOf_long {l : List UInt8} (h : 10 < l.length) : numOf l = none := numOf_not fun u hu e => by
  have := dec_len hu
  rw [e] at this
  omega
theorem numOf_nodig {l : List UInt8} (h : l.all isDig = false) : numOf l = none := numOf_not fun u hu e => by
  have := (dec_facts u).1
  rw [e, h] at this
  cases this
theorem numOf_big {l : List UInt8} (h : 4294967295 < valF 0 l) : numOf l = none := numOf_not fun u hu e => by
  have := (dec_facts u).2.1
  rw [e] at this
  omega
theorem numOf_same {l : List UInt8} (h : valF 0 l ≤ 4294967295) (hd : decDigits (valF 0 l) = l) : numOf l = some (valF 0 l) := by
  have := numOf_dec h
  rw [hd] at this
  exact this
theorem numOf_other {l : List UInt8} (hd : decDigits (valF 0 l) ≠ l) : numOf l = none := numOf_not fun u hu e => by
  have := (dec_facts u).2.1
  rw [e] at this
  exact hd (by rw [this]; exact e)
end Go.Proofs.YtpoejnajnaolpaaGreatDoor

namespace Go.Proofs.YtpoejnajnaolpaaGreatDoor
open Go.RowKit Go.Sort Go.Lib Go.Joins


theorem parseUint_bad (s : ByteArray) (hlim : s.size ≤ 281474976710656) (w : World) (henv : Env w) (h : ∀ u, parseUintB 32 s.data.toList ≠ .ok u) :
    Calls Tryz.prog 116 #[.string s, .int .i64 10, .int .i64 32] w fun e w' => ∃ n N, e = .returned (.tuple #[.int .u64 n, .iface 154 (.pointer (some ⟨N, 0, none⟩))]) ∧ Below w.heap.size w w' := by
  obtain ⟨_, ⟨a, p, hs⟩, ⟨b, q, hr⟩⟩ := henv
  rcases hp : parseUintB 32 s.data.toList with u | _ | _
  · exact absurd hp (h u)
  · exact (Any.strconv_ParseUint_10_at32_syntax_var Tryz.laysPu14 s hlim hp a p w hs).mono fun e w' ⟨N, he, _, _, hb⟩ => ⟨0, N, he, hb⟩
  · exact (Any.strconv_ParseUint_10_at32_range_var Tryz.laysPu14 s hlim hp b q w hr).mono fun e w' ⟨N, he, _, _, hb⟩ => ⟨4294967295, N, he, hb⟩

theorem parseUint_ok (s : ByteArray) (hlim : s.size ≤ 281474976710656) (u : Nat) (h : parseUintB 32 s.data.toList = .ok u) (w : World) :
    Calls Tryz.prog 116 #[.string s, .int .i64 10, .int .i64 32] w fun e w' => e = .returned (.tuple #[.int .u64 u, .nilIface]) ∧ Below w.heap.size w w' :=
  (Any.strconv_ParseUint_10_at32_ok Tryz.laysPu14 s (by omega) u h w).mono fun e w' ⟨he, hw⟩ => ⟨he, by
    rcases hw with rfl | rfl
    · exact Below.refl _ _
    · exact below_bytesWorld _ _ _ _ (Nat.le_refl _)⟩
end Go.Proofs.YtpoejnajnaolpaaGreatDoor

namespace Go.Proofs.YtpoejnajnaolpaaGreatDoor
open Go.RowKit Go.Sort Go.Lib

set_option maxRecDepth 100000 in
theorem number_bad (s : ByteArray) (hlim : s.size ≤ 281474976710656) (w : World) (henv : Env w) (h : ∀ u, parseUintB 32 s.data.toList ≠ .ok u) :
    Calls Tryz.prog 104 #[.string s] w fun e w' => e = .returned (.tuple #[.int .u32 0, .bool false]) ∧ Below w.heap.size w w' := by
  have C := Lib.hid (parseUint_bad s hlim w henv h)
  clear henv h
  go_enter Tryz.func104, Tryz.ntmps104
  go_wp2_with (go_at_call 116; refine C.out.mono ?_; rintro e w' ⟨n, N, rfl, hb⟩)
  go_ret2
  exact ⟨rfl, hb⟩

set_option maxRecDepth 100000 in
theorem number_ok (s : ByteArray) (hlim : s.size ≤ 281474976710656) (w : World) (henv : Env w) (u : Nat) (h : parseUintB 32 s.data.toList = .ok u) (hu : u ≤ 4294967295) :
    Calls Tryz.prog 104 #[.string s] w fun e w' => e = .returned (.tuple #[.int .u32 (if decDigits u = s.data.toList then u else 0), .bool (decide (decDigits u = s.data.toList))]) ∧ Below w.heap.size w w' := by
  have C := Lib.hid (parseUint_ok s hlim u h w)
  clear h
  have D : ∀ w1, Below w.heap.size w w1 → Hid (Calls Tryz.prog 89 #[.int .u32 u] w1 fun e w' => e = .returned (.string ⟨(decDigits u).toArray⟩) ∧ Below w1.heap.size w1 w') := fun w1 hb => decimal_any u hu w1 (henv.below hb)
  clear henv
  by_cases hd : decDigits u = s.data.toList
  · rw [if_pos hd, decide_eq_true hd]
    have ht : (decDigits u == s.toList) = true := by rw [btl]; simpa using hd
    clear hd
    generalize decDigits u = l at *
    go_enter Tryz.func104, Tryz.ntmps104
    go_wp2_with (go_at_call 116; refine C.out.mono ?_; rintro e w' ⟨rfl, hb⟩)
    refine (D _ hb).out.mono ?_
    rintro e w2 ⟨rfl, hb2⟩
    go_wp2
    go_ret2
    exact ⟨rfl, below_next hb hb2⟩
  · rw [if_neg hd, decide_eq_false hd]
    have ht : (decDigits u == s.toList) = false := by rw [btl]; simpa using hd
    clear hd
    generalize decDigits u = l at *
    go_enter Tryz.func104, Tryz.ntmps104
    go_wp2_with (go_at_call 116; refine C.out.mono ?_; rintro e w' ⟨rfl, hb⟩)
    refine (D _ hb).out.mono ?_
    rintro e w2 ⟨rfl, hb2⟩
    go_wp2
    go_ret2
    exact ⟨rfl, below_next hb hb2⟩

/-- THE PROJECT's Number: the number whose decimal form the bytes are, or 0 and false. -/
theorem number_any (s : ByteArray) (hlim : s.size ≤ 281474976710656) (w : World) (henv : Env w) :
    Calls Tryz.prog 104 #[.string s] w fun e w' => e = .returned (.tuple #[.int .u32 ((numOf s.data.toList).getD 0 : Nat), .bool (numOf s.data.toList).isSome]) ∧ Below w.heap.size w w' := by
  rcases hp : parseUintB 32 s.data.toList with u | _ | _
  · have hu : u ≤ 4294967295 := by have := parseUintB_le hp; simpa using this
    have c := number_ok s hlim w henv u hp hu
    unfold numOf
    rw [hp]
    by_cases hd : decDigits u = s.data.toList
    · rw [if_pos hd, decide_eq_true hd] at c
      simpa [hd] using c
    · rw [if_neg hd, decide_eq_false hd] at c
      simpa [hd] using c
  · have c := number_bad s hlim w henv (by rw [hp]; intro u h; cases h)
    unfold numOf
    rw [hp]
    simpa using c
  · have c := number_bad s hlim w henv (by rw [hp]; intro u h; cases h)
    unfold numOf
    rw [hp]
    simpa using c
end Go.Proofs.YtpoejnajnaolpaaGreatDoor

namespace Go.Proofs.YtpoejnajnaolpaaGreatDoor
open Go.RowKit
open Go.Lib hiding intOf

def headL (n : Nat) : List UInt8 := 123 :: (decDigits n ++ [125, 13, 10])
def literalL (l : List UInt8) : List UInt8 := headL l.length ++ l
def bestL (l : List UInt8) : List UInt8 := if allT l = true then quotedL l else literalL l
theorem headL_len {n : Nat} (h : n ≤ 4294967295) : (headL n).length ≤ 14 := by
  have := dec_len h
  unfold headL
  rw [List.length_cons, List.length_append]
  simp only [List.length_cons, List.length_nil]
  omega

theorem headS_list (d : List UInt8) : (ByteArray.mk #[123] ++ ByteArray.mk d.toArray ++ ByteArray.mk #[125, 13, 10]).data.toList = 123 :: (d ++ [125, 13, 10]) := by
  simp
theorem headS_size (d : List UInt8) : (ByteArray.mk #[123] ++ ByteArray.mk d.toArray ++ ByteArray.mk #[125, 13, 10]).size = 1 + d.length + 3 := by
  rw [ByteArray.size_append, ByteArray.size_append]
  rfl
end Go.Proofs.YtpoejnajnaolpaaGreatDoor

namespace Go.Proofs.YtpoejnajnaolpaaGreatDoor
open Go.RowKit

/-- A response's fields. -/
structure RI where
  kind : Int
  n : Nat
  tag : List UInt8
  status : Int
  text : List UInt8
  items : Int
  flags : Nat
  uid : Nat
  size : Nat
  body : List UInt8
/-- What the fields keep to. -/
structure RIok (r : RI) : Prop where
  kind : -9223372036854775808 ≤ r.kind ∧ r.kind ≤ 9223372036854775807
  n : r.n ≤ 4294967295
  status : -9223372036854775808 ≤ r.status ∧ r.status ≤ 9223372036854775807
  items : -9223372036854775808 ≤ r.items ∧ r.items ≤ 9223372036854775807
  flags : r.flags ≤ 255
  uid : r.uid ≤ 4294967295
  size : r.size ≤ 4294967295
/-- Few and small bytes. -/
structure RIsm (r : RI) : Prop where
  tag : r.tag.length ≤ 3000
  text : r.text.length ≤ 3000
  body : r.body.length ≤ 3000
def rsV (r : RI) (A : Option Addr) (c : Nat) : Value := .agg #[.int .i64 r.kind, .int .u32 (r.n : Int), .string ⟨r.tag.toArray⟩, .int .i64 r.status, .string ⟨r.text.toArray⟩, .int .i64 r.items, .int .u8 (r.flags : Int), .int .u32 (r.uid : Int), .int .u32 (r.size : Int), .slice A r.body.length c]
/-- All fields are equal. -/
def rsSame (a b : RI) : Bool :=
  a.kind == b.kind && ((a.n : Int) == (b.n : Int) && (a.tag == b.tag && (a.status == b.status && (a.text == b.text && (a.items == b.items && ((a.flags : Int) == (b.flags : Int) && ((a.uid : Int) == (b.uid : Int) && ((a.size : Int) == (b.size : Int) && a.body == b.body))))))))
theorem rsSame_iff (a b : RI) : rsSame a b = true ↔ a = b := by
  obtain ⟨a0, a1, a2, a3, a4, a5, a6, a7, a8, a9⟩ := a
  obtain ⟨b0, b1, b2, b3, b4, b5, b6, b7, b8, b9⟩ := b
  simp [rsSame, Int.ofNat_inj]
theorem rsSame_refl (a : RI) : rsSame a a = true := (rsSame_iff a a).2 rfl

/-- An item is among some. -/
def rsBit (x : Int) (o : Int) : Bool := bits BinOp.and IntKind.i64 x o != 0
def rsZero : RI := ⟨0, 0, [], 0, [], 0, 0, 0, 0, []⟩
/-- Only the fields of the items. -/
def rsAmong (r : RI) : RI := ⟨r.kind, r.n, r.tag, r.status, r.text, r.items, if rsBit r.items 1 = true then r.flags else 0, if rsBit r.items 2 = true then r.uid else 0, if rsBit r.items 4 = true then r.size else 0, if rsBit r.items 16 = true then r.body else []⟩
/-- Only the fields that occur in the form. -/
def rsOwn (r : RI) : RI :=
  if r.kind = 1 ∨ r.kind = 2 ∨ r.kind = 3 then ⟨r.kind, r.n, [], 0, [], 0, 0, 0, 0, []⟩
  else if r.kind = 4 then rsAmong ⟨r.kind, r.n, [], 0, [], r.items, r.flags, r.uid, r.size, r.body⟩
  else if r.kind = 5 then ⟨r.kind, 0, [], 0, [], 0, 0, 0, 0, []⟩
  else if r.kind = 9 then ⟨9, 0, r.tag, r.status, r.text, 0, 0, 0, 0, []⟩
  else ⟨r.kind, 0, [], 0, r.text, 0, 0, 0, 0, []⟩
/-- Some text bytes; some tag bytes. -/
def txtL (l : List UInt8) : Bool := !l.isEmpty && l.all fun c => textN c.toNat
def tgL (l : List UInt8) : Bool := !l.isEmpty && l.all fun c => tagN c.toNat
/-- These fields keep to their bounds. -/
def rsFit (r : RI) : Bool :=
  if r.kind = 1 ∨ r.kind = 2 ∨ r.kind = 3 then true
  else if r.kind = 4 then decide (1 ≤ r.items ∧ r.items ≤ 31 ∧ rsBit r.items 8 = false) && (decide (r.flags ≤ 31) && decide (r.body.length ≤ 65536))
  else if r.kind = 5 then true
  else if r.kind = 9 then tgL r.tag && (txtL r.text && decide (0 ≤ r.status ∧ r.status ≤ 2))
  else if r.kind = 6 ∨ r.kind = 7 ∨ r.kind = 8 ∨ r.kind = 10 then txtL r.text
  else false
/-- The response is valid. -/
def rsOk (r : RI) : Bool := rsFit r && rsSame r (rsOwn r)

def rsParts (r : RI) : List (List UInt8) :=
  (if rsBit r.items 1 = true then [[70, 76, 65, 71, 83, 32] ++ listL r.flags] else []) ++ ((if rsBit r.items 2 = true then [[85, 73, 68, 32] ++ Lib.decDigits r.uid] else []) ++
  ((if rsBit r.items 4 = true then [[82, 70, 67, 56, 50, 50, 46, 83, 73, 90, 69, 32] ++ Lib.decDigits r.size] else []) ++ (if rsBit r.items 16 = true then [[66, 79, 68, 89, 91, 93, 32] ++ literalL r.body] else [])))
def rsStat (s : Int) : List UInt8 := if s = 0 then [79, 75] else if s = 1 then [78, 79] else [66, 65, 68]
def rsWord (k : Int) : List UInt8 := if k = 1 then [69, 88, 73, 83, 84, 83] else if k = 2 then [82, 69, 67, 69, 78, 84] else [69, 88, 80, 85, 78, 71, 69]
def rsPre (k : Int) : List UInt8 := if k = 6 then [42, 32, 79, 75, 32] else if k = 7 then [42, 32, 66, 89, 69, 32] else if k = 8 then [42, 32, 66, 65, 68, 32] else [43, 32]
/-- The form without its end. -/
def rsLine (r : RI) : List UInt8 :=
  if r.kind = 1 ∨ r.kind = 2 ∨ r.kind = 3 then [42, 32] ++ Lib.decDigits r.n ++ [32] ++ rsWord r.kind
  else if r.kind = 4 then [42, 32] ++ Lib.decDigits r.n ++ [32, 70, 69, 84, 67, 72, 32, 40] ++ spL (rsParts r) ++ [41]
  else if r.kind = 5 then [42, 32, 70, 76, 65, 71, 83, 32] ++ listL 31
  else if r.kind = 9 then r.tag ++ [32] ++ rsStat r.status ++ [32] ++ r.text
  else rsPre r.kind ++ r.text
def rsForm (r : RI) : List UInt8 := rsLine r ++ [13, 10]
end Go.Proofs.YtpoejnajnaolpaaGreatDoor

namespace Go.Proofs.YtpoejnajnaolpaaGreatDoor
open Go.RowKit

theorem cells10 {W : World} {g : Nat} {a0 a1 a2 a3 a4 a5 a6 a7 a8 a9 : Value} {T : TypeId} {z : Nat × Nat} (h : W.heap[g]? = some (.cells #[a0, a1, a2, a3, a4, a5, a6, a7, a8, a9] T z)) :
    W.cell? ⟨g, 0, none⟩ = some a0 ∧ W.cell? ⟨g, 1, none⟩ = some a1 ∧ W.cell? ⟨g, 2, none⟩ = some a2 ∧ W.cell? ⟨g, 3, none⟩ = some a3 ∧ W.cell? ⟨g, 4, none⟩ = some a4 ∧ W.cell? ⟨g, 5, none⟩ = some a5 ∧ W.cell? ⟨g, 6, none⟩ = some a6 ∧ W.cell? ⟨g, 7, none⟩ = some a7 ∧ W.cell? ⟨g, 8, none⟩ = some a8 ∧ W.cell? ⟨g, 9, none⟩ = some a9 :=
  ⟨cell_of_row _ _ 0 _ _ _ h, cell_of_row _ _ 1 _ _ _ h, cell_of_row _ _ 2 _ _ _ h, cell_of_row _ _ 3 _ _ _ h, cell_of_row _ _ 4 _ _ _ h, cell_of_row _ _ 5 _ _ _ h, cell_of_row _ _ 6 _ _ _ h, cell_of_row _ _ 7 _ _ _ h, cell_of_row _ _ 8 _ _ _ h, cell_of_row _ _ 9 _ _ _ h⟩
theorem load10 {W : World} {b o : Nat} {a0 a1 a2 a3 a4 a5 a6 a7 a8 a9 : Value} (h0 : W.cell? ⟨b, o, none⟩ = some a0) (h1 : W.cell? ⟨b, o + 1, none⟩ = some a1) (h2 : W.cell? ⟨b, o + 2, none⟩ = some a2) (h3 : W.cell? ⟨b, o + 3, none⟩ = some a3) (h4 : W.cell? ⟨b, o + 4, none⟩ = some a4) (h5 : W.cell? ⟨b, o + 5, none⟩ = some a5) (h6 : W.cell? ⟨b, o + 6, none⟩ = some a6) (h7 : W.cell? ⟨b, o + 7, none⟩ = some a7) (h8 : W.cell? ⟨b, o + 8, none⟩ = some a8) (h9 : W.cell? ⟨b, o + 9, none⟩ = some a9)
    (s0 : ∃ x, a0 = .int .i64 x) (s1 : ∃ x, a1 = .int .u32 x) (s2 : ∃ x, a2 = .string x) (s3 : ∃ x, a3 = .int .i64 x) (s4 : ∃ x, a4 = .string x) (s5 : ∃ x, a5 = .int .i64 x) (s6 : ∃ x, a6 = .int .u8 x) (s7 : ∃ x, a7 = .int .u32 x) (s8 : ∃ x, a8 = .int .u32 x) (s9 : ∃ A n k, a9 = .slice A n k) :
    (Instr.loadAt 27 (.pointer (some ⟨b, o, none⟩))).run Tryz.prog W = .ok (.agg #[a0, a1, a2, a3, a4, a5, a6, a7, a8, a9]) W := by
  obtain ⟨v, rfl⟩ := s0
  obtain ⟨v, rfl⟩ := s1
  obtain ⟨v, rfl⟩ := s2
  obtain ⟨v, rfl⟩ := s3
  obtain ⟨v, rfl⟩ := s4
  obtain ⟨v, rfl⟩ := s5
  obtain ⟨v, rfl⟩ := s6
  obtain ⟨v, rfl⟩ := s7
  obtain ⟨v, rfl⟩ := s8
  obtain ⟨_, _, _, rfl⟩ := s9
  simp [go_sem, h0, h1, h2, h3, h4, h5, h6, h7, h8, h9]

theorem below_2box (w : World) (o1 o2 : Obj) : Below w.heap.size w ((w.alloc o1).alloc o2) := below_next (below_al w o1) (below_al _ o2)
/-- The response lies in the block g. -/
def RsBox (g : Nat) (r : RI) (A : Option Addr) (k : Nat) (W : World) : Prop := W.heap[g]? = some (.cells #[.int .i64 r.kind, .int .u32 (r.n : Int), .string ⟨r.tag.toArray⟩, .int .i64 r.status, .string ⟨r.text.toArray⟩, .int .i64 r.items, .int .u8 (r.flags : Int), .int .u32 (r.uid : Int), .int .u32 (r.size : Int), .slice A r.body.length k] 27 (0, 0))
section
variable {g : Nat} {r : RI} {A : Option Addr} {k : Nat} {W W' : World}
theorem RsBox.lt (h : RsBox g r A k W) : g < W.heap.size := (Array.getElem?_eq_some_iff.1 h).1
theorem RsBox.below (h : RsBox g r A k W) (hb : Below W.heap.size W W') : RsBox g r A k W' := (hb.block g h.lt).trans h
theorem RsBox.new (W : World) (r : RI) (A : Option Addr) (k : Nat) : RsBox W.heap.size r A k (W.alloc (.cells #[.int .i64 r.kind, .int .u32 (r.n : Int), .string ⟨r.tag.toArray⟩, .int .i64 r.status, .string ⟨r.text.toArray⟩, .int .i64 r.items, .int .u8 (r.flags : Int), .int .u32 (r.uid : Int), .int .u32 (r.size : Int), .slice A r.body.length k] 27)) := heap_alloc_new W _
theorem RsBox.cells (h : RsBox g r A k W) : W.cell? ⟨g, 0, none⟩ = some (.int .i64 r.kind) ∧ W.cell? ⟨g, 1, none⟩ = some (.int .u32 (r.n : Int)) ∧ W.cell? ⟨g, 2, none⟩ = some (.string ⟨r.tag.toArray⟩) ∧ W.cell? ⟨g, 3, none⟩ = some (.int .i64 r.status) ∧ W.cell? ⟨g, 4, none⟩ = some (.string ⟨r.text.toArray⟩) ∧ W.cell? ⟨g, 5, none⟩ = some (.int .i64 r.items) ∧ W.cell? ⟨g, 6, none⟩ = some (.int .u8 (r.flags : Int)) ∧ W.cell? ⟨g, 7, none⟩ = some (.int .u32 (r.uid : Int)) ∧ W.cell? ⟨g, 8, none⟩ = some (.int .u32 (r.size : Int)) ∧ W.cell? ⟨g, 9, none⟩ = some (.slice A r.body.length k) := cells10 h
theorem RsBox.load (h : RsBox g r A k W) : (Instr.loadAt 27 (.pointer (some ⟨g, 0, none⟩))).run Tryz.prog W = .ok (rsV r A k) W := by
  obtain ⟨x0, x1, x2, x3, x4, x5, x6, x7, x8, x9⟩ := cells10 h
  exact load10 x0 x1 x2 x3 x4 x5 x6 x7 x8 x9 ⟨_, rfl⟩ ⟨_, rfl⟩ ⟨_, rfl⟩ ⟨_, rfl⟩ ⟨_, rfl⟩ ⟨_, rfl⟩ ⟨_, rfl⟩ ⟨_, rfl⟩ ⟨_, rfl⟩ ⟨_, _, _, rfl⟩
end
end Go.Proofs.YtpoejnajnaolpaaGreatDoor

namespace Go.Proofs.YtpoejnajnaolpaaGreatDoor
open Go.RowKit

/-- A response stored whole. -/
def stR (W : World) (r : Nat) (a0 a1 a2 a3 a4 a5 a6 a7 a8 a9 : Value) : World := ((((((((((W.setCell ⟨r, 0, none⟩ a0).setCell ⟨r, 1, none⟩ a1).setCell ⟨r, 2, none⟩ a2).setCell ⟨r, 3, none⟩ a3).setCell ⟨r, 4, none⟩ a4).setCell ⟨r, 5, none⟩ a5).setCell ⟨r, 6, none⟩ a6).setCell ⟨r, 7, none⟩ a7).setCell ⟨r, 8, none⟩ a8).setCell ⟨r, 9, none⟩ a9)
theorem stR_block {W : World} {r : Nat} {c0 c1 c2 c3 c4 c5 c6 c7 c8 c9 : Value} {T : TypeId} (h : W.heap[r]? = some (.cells #[c0, c1, c2, c3, c4, c5, c6, c7, c8, c9] T (0, 0))) (a0 a1 a2 a3 a4 a5 a6 a7 a8 a9 : Value) : (stR W r a0 a1 a2 a3 a4 a5 a6 a7 a8 a9).heap[r]? = some (.cells #[a0, a1, a2, a3, a4, a5, a6, a7, a8, a9] T (0, 0)) := by
  have h0 : (W.setCell ⟨r, 0, none⟩ a0).heap[r]? = some (.cells #[a0, c1, c2, c3, c4, c5, c6, c7, c8, c9] T (0, 0)) := Joins.block_setCell (i := 0) h a0
  have h1 : ((W.setCell ⟨r, 0, none⟩ a0).setCell ⟨r, 1, none⟩ a1).heap[r]? = some (.cells #[a0, a1, c2, c3, c4, c5, c6, c7, c8, c9] T (0, 0)) := Joins.block_setCell (i := 1) h0 a1
  have h2 : (((W.setCell ⟨r, 0, none⟩ a0).setCell ⟨r, 1, none⟩ a1).setCell ⟨r, 2, none⟩ a2).heap[r]? = some (.cells #[a0, a1, a2, c3, c4, c5, c6, c7, c8, c9] T (0, 0)) := Joins.block_setCell (i := 2) h1 a2
  have h3 : ((((W.setCell ⟨r, 0, none⟩ a0).setCell ⟨r, 1, none⟩ a1).setCell ⟨r, 2, none⟩ a2).setCell ⟨r, 3, none⟩ a3).heap[r]? = some (.cells #[a0, a1, a2, a3, c4, c5, c6, c7, c8, c9] T (0, 0)) := Joins.block_setCell (i := 3) h2 a3
  have h4 : (((((W.setCell ⟨r, 0, none⟩ a0).setCell ⟨r, 1, none⟩ a1).setCell ⟨r, 2, none⟩ a2).setCell ⟨r, 3, none⟩ a3).setCell ⟨r, 4, none⟩ a4).heap[r]? = some (.cells #[a0, a1, a2, a3, a4, c5, c6, c7, c8, c9] T (0, 0)) := Joins.block_setCell (i := 4) h3 a4
  have h5 : ((((((W.setCell ⟨r, 0, none⟩ a0).setCell ⟨r, 1, none⟩ a1).setCell ⟨r, 2, none⟩ a2).setCell ⟨r, 3, none⟩ a3).setCell ⟨r, 4, none⟩ a4).setCell ⟨r, 5, none⟩ a5).heap[r]? = some (.cells #[a0, a1, a2, a3, a4, a5, c6, c7, c8, c9] T (0, 0)) := Joins.block_setCell (i := 5) h4 a5
  have h6 : (((((((W.setCell ⟨r, 0, none⟩ a0).setCell ⟨r, 1, none⟩ a1).setCell ⟨r, 2, none⟩ a2).setCell ⟨r, 3, none⟩ a3).setCell ⟨r, 4, none⟩ a4).setCell ⟨r, 5, none⟩ a5).setCell ⟨r, 6, none⟩ a6).heap[r]? = some (.cells #[a0, a1, a2, a3, a4, a5, a6, c7, c8, c9] T (0, 0)) := Joins.block_setCell (i := 6) h5 a6
  have h7 : ((((((((W.setCell ⟨r, 0, none⟩ a0).setCell ⟨r, 1, none⟩ a1).setCell ⟨r, 2, none⟩ a2).setCell ⟨r, 3, none⟩ a3).setCell ⟨r, 4, none⟩ a4).setCell ⟨r, 5, none⟩ a5).setCell ⟨r, 6, none⟩ a6).setCell ⟨r, 7, none⟩ a7).heap[r]? = some (.cells #[a0, a1, a2, a3, a4, a5, a6, a7, c8, c9] T (0, 0)) := Joins.block_setCell (i := 7) h6 a7
  have h8 : (((((((((W.setCell ⟨r, 0, none⟩ a0).setCell ⟨r, 1, none⟩ a1).setCell ⟨r, 2, none⟩ a2).setCell ⟨r, 3, none⟩ a3).setCell ⟨r, 4, none⟩ a4).setCell ⟨r, 5, none⟩ a5).setCell ⟨r, 6, none⟩ a6).setCell ⟨r, 7, none⟩ a7).setCell ⟨r, 8, none⟩ a8).heap[r]? = some (.cells #[a0, a1, a2, a3, a4, a5, a6, a7, a8, c9] T (0, 0)) := Joins.block_setCell (i := 8) h7 a8
  have h9 : ((((((((((W.setCell ⟨r, 0, none⟩ a0).setCell ⟨r, 1, none⟩ a1).setCell ⟨r, 2, none⟩ a2).setCell ⟨r, 3, none⟩ a3).setCell ⟨r, 4, none⟩ a4).setCell ⟨r, 5, none⟩ a5).setCell ⟨r, 6, none⟩ a6).setCell ⟨r, 7, none⟩ a7).setCell ⟨r, 8, none⟩ a8).setCell ⟨r, 9, none⟩ a9).heap[r]? = some (.cells #[a0, a1, a2, a3, a4, a5, a6, a7, a8, a9] T (0, 0)) := Joins.block_setCell (i := 9) h8 a9
  exact h9
theorem stR_grown (W : World) (r : Nat) (a0 a1 a2 a3 a4 a5 a6 a7 a8 a9 : Value) : W.grownBy (stR W r a0 a1 a2 a3 a4 a5 a6 a7 a8 a9) (some r) := grown_set (grown_set (grown_set (grown_set (grown_set (grown_set (grown_set (grown_set (grown_set (grown_set (World.grownBy.refl W (some r)) 0 a0) 1 a1) 2 a2) 3 a3) 4 a4) 5 a5) 6 a6) 7 a7) 8 a8) 9 a9
/-- Two new blocks behind a call that makes memory. -/
theorem two_new {w w1 : World} {o1 o2 : Obj} (hb : Below ((w.alloc o1).alloc o2).heap.size ((w.alloc o1).alloc o2) w1) : w1.heap[w.heap.size]? = some o1 ∧ w1.heap[w.heap.size + 1]? = some o2 ∧ Below w.heap.size w w1 ∧ w.heap.size + 2 ≤ w1.heap.size := by
  have hx := heap_alloc_new (w.alloc o1) o2
  rw [World.size_alloc] at hx
  have hz := hb.size
  rw [World.size_alloc, World.size_alloc] at hz
  exact ⟨(hb.block _ (by simp; omega)).trans (((below_al (w.alloc o1) o2).block w.heap.size (by simp)).trans (heap_alloc_new w o1)), (hb.block _ (by simp)).trans hx, below_next (below_2box w o1 o2) hb, hz⟩
theorem below_st {w w1 W : World} {r : Nat} (h : Below w.heap.size w w1) (hg : w1.grownBy W (some r)) (hr : w.heap.size ≤ r) : Below w.heap.size w W := h.grown hg h.size (fun j hj => by cases hj; exact hr)
end Go.Proofs.YtpoejnajnaolpaaGreatDoor

namespace Go.Proofs.YtpoejnajnaolpaaGreatDoor
open Go.RowKit

theorem wrap_zero {x : Nat} (hx : x < 18446744073709551616) (h : IntKind.i64.wrap (x : Int) = 0) : x = 0 := by
  have e : (x : Int) % 18446744073709551616 = x := by omega
  simp only [IntKind.wrap, IntKind.bits, IntKind.signed, Bool.true_and, Int.reducePow, Nat.reduceSub, ge_iff_le, e, decide_eq_true_eq] at h
  split at h <;> omega
theorem sub_mask {v m : BitVec 64} (h : v &&& ~~~m = 0#64) : v.toNat ≤ m.toNat := by
  have e : v = v &&& m := by
    apply BitVec.eq_of_getLsbD_eq
    intro i hi
    have h1 := congrArg (fun z : BitVec 64 => z.getLsbD i) h
    simp [hi] at h1
    rw [BitVec.getLsbD_and, BitVec.getLsbD_eq_getElem hi, BitVec.getLsbD_eq_getElem hi]
    cases hv : v[i] with
    | false => rfl
    | true => rw [h1 hv]; rfl
  rw [e, BitVec.toNat_and]
  exact Nat.and_le_right
theorem andNot_big {x : Int} (h1 : -9223372036854775808 ≤ x) (h2 : x ≤ 9223372036854775807) (h : x < 0 ∨ 31 < x) : (bits BinOp.andNot IntKind.i64 x 23 == 0) = false := by
  rw [beq_eq_false_iff_ne]
  intro e
  have e : IntKind.i64.wrap (((BitVec.ofInt 64 x &&& ~~~BitVec.ofInt 64 23).toNat : Nat) : Int) = 0 := e
  have e := wrap_zero (by have := (BitVec.ofInt 64 x &&& ~~~BitVec.ofInt 64 23).isLt; simpa using this) e
  have e2 : BitVec.ofInt 64 x &&& ~~~BitVec.ofInt 64 23 = 0#64 := BitVec.eq_of_toNat_eq (by rw [e]; rfl)
  have e3 := sub_mask e2
  rw [BitVec.toNat_ofInt, BitVec.toNat_ofInt] at e3
  omega
theorem items_small : ∀ n : Fin 32, (((n.val : Int) != 0) && (bits BinOp.andNot IntKind.i64 (n.val : Int) 23 == 0)) = decide (1 ≤ (n.val : Int) ∧ (n.val : Int) ≤ 31 ∧ rsBit (n.val : Int) 8 = false) := by decide +kernel
theorem items_fit {x : Int} (h1 : -9223372036854775808 ≤ x) (h2 : x ≤ 9223372036854775807) : ((x != 0) && (bits BinOp.andNot IntKind.i64 x 23 == 0)) = decide (1 ≤ x ∧ x ≤ 31 ∧ rsBit x 8 = false) := by
  by_cases h : x < 0 ∨ 31 < x
  · rw [andNot_big h1 h2 h, Bool.and_false, eq_comm, decide_eq_false_iff_not]
    omega
  · obtain ⟨n, rfl⟩ : ∃ n : Nat, x = n := ⟨x.toNat, by omega⟩
    exact items_small ⟨n, by omega⟩
theorem flags_fit : ∀ n : Fin 256, (bits BinOp.andNot IntKind.u8 (n.val : Int) 31 == 0) = decide (n.val ≤ 31) := by decide +kernel
end Go.Proofs.YtpoejnajnaolpaaGreatDoor
