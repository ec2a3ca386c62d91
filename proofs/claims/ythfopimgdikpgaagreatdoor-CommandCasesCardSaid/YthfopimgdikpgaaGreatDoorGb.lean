/- WHAT THE WORLD OWES: the table of powers of ten and the two errors of strconv, and that they outlast whatever is made behind the heap. Plain facts, no walk. -/
import Derived.Test.YthfopimgdikpgaaGreatDoorGa
import Derived.Laws.EntriesVeiled
import Derived.Test.YthfopimgdikpgaaGreatDoorShelf
import Derived.BigCall
import Derived.Lib.SmallJoins
import Derived.BigGuard
namespace Go.Proofs.YthfopimgdikpgaaGreatDoor
open Go.RowKit

/-- The library's variables hold what the program's text lays in them. -/
structure Env (w : World) : Prop where
  tab : Lib.TabIs Tryz.prog w "internal/strconv.uint64pow10" .u64 Lib.pow10Tab
  syn : ∃ tp p, w.var? Tryz.prog "strconv.ErrSyntax" = some #[.iface tp p]
  rng : ∃ tp p, w.var? Tryz.prog "strconv.ErrRange" = some #[.iface tp p]

theorem globTab : Tryz.prog.globalNamed "internal/strconv.uint64pow10" = some 5 := by kernel_rfl
theorem globSyn : Tryz.prog.globalNamed "strconv.ErrSyntax" = some 3 := by kernel_rfl
theorem globRng : Tryz.prog.globalNamed "strconv.ErrRange" = some 4 := by kernel_rfl

theorem Env.below {w w' : World} (h : Env w) (hb : Below w.heap.size w w') : Env w' := by
  obtain ⟨t, ⟨a, p, s⟩, ⟨b, q, r⟩⟩ := h
  exact ⟨var?_below hb globTab (var_lt globTab t) t, ⟨a, p, var?_below hb globSyn (var_lt globSyn s) s⟩, ⟨b, q, var?_below hb globRng (var_lt globRng r) r⟩⟩
theorem Env.alloc {w : World} (h : Env w) (o : Obj) : Env (w.alloc o) := h.below ((Below.refl _ _).alloc (Nat.le_refl _) _)

end Go.Proofs.YthfopimgdikpgaaGreatDoor

namespace Go.Proofs.YthfopimgdikpgaaGreatDoor
open Go.RowKit

theorem classOf_any (a b c d : Int) (w : World) :
    Calls Tryz.prog 54 #[.agg #[.int .u64 a, .int .u64 b, .int .u64 c, .int .u64 d]] w fun e w' =>
      e = .returned (.agg #[.func (Fn.func 73) #[] #[.pointer (some ⟨w.heap.size, 0, none⟩)]]) ∧
      (w.alloc (.cells #[.int .u64 a, .int .u64 b, .int .u64 c, .int .u64 d] 89)).alloc (.cells #[.func (Fn.func 73) #[] #[.pointer (some ⟨w.heap.size, 0, none⟩)]] 85) = w' := by
  go_enter Tryz.func54, Tryz.ntmps54
  go_wp2
  exact bodyPost_ret (v := .agg #[.func (Fn.func 73) #[] #[.pointer (some ⟨w.heap.size, 0, none⟩)]]) (by simp [results, Tryz.results54, go_sem]) rfl ⟨rfl, rfl⟩

set_option maxRecDepth 100000 in
theorem has_any (n : Nat) (x : Int) (b : Nat) (w : World) (h1 : n ≤ 255) (hc : w.cell? ⟨b, n / 64, none⟩ = some (.int .u64 x)) :
    Calls Tryz.prog 73 #[.int .u8 n, .pointer (some ⟨b, 0, none⟩)] w fun e w' => e = .returned (.bool (bits BinOp.and IntKind.u64 (x / 2 ^ (n % 64)) 1 == 1)) ∧ w = w' := by
  go_enter Tryz.func73, Tryz.ntmps73
  go_wp2
  go_ret
  exact ⟨rfl, rfl⟩

/-- The four words of a class lie in the first of its two blocks. -/
theorem word_at (a b c d : Int) (v : Value) (t u : TypeId) (w : World) (n : Nat) (h1 : n ≤ 255) :
    ((w.alloc (.cells #[.int .u64 a, .int .u64 b, .int .u64 c, .int .u64 d] t)).alloc (.cells #[v] u)).cell? ⟨w.heap.size, n / 64, none⟩ = some (.int .u64 (if n / 64 = 0 then a else if n / 64 = 1 then b else if n / 64 = 2 then c else d)) := by
  have hn : n / 64 < 4 := by omega
  generalize n / 64 = k at hn
  rw [World.cell?_alloc_old _ _ _ (by simp)]
  rw [World.cell?_alloc_new]
  match k, hn with
  | 0, _ => rfl
  | 1, _ => rfl
  | 2, _ => rfl
  | 3, _ => rfl

theorem field_has (b : Nat) (w : World) : (Instr.field 85 (.agg #[.func (Fn.func 73) #[] #[.pointer (some ⟨b, 0, none⟩)]]) 0).run Tryz.prog w = .ok (.func (Fn.func 73) #[] #[.pointer (some ⟨b, 0, none⟩)]) w := by kernel_rfl

theorem below_two (w : World) (o1 o2 : Obj) : Below w.heap.size w ((w.alloc o1).alloc o2) := ((Below.refl _ _).alloc (Nat.le_refl _) _).alloc (by simp) _

set_option maxRecDepth 100000 in
theorem text_any (n : Nat) (w : World) (h1 : n ≤ 255) :
    Calls Tryz.prog 131 #[.int .u8 n] w fun e w' => e = .returned (.bool (textN n)) ∧ Below w.heap.size w w' := by
  have H0 := has_any n _ _ _ h1 (word_at 18446744073709542398 18446744073709551615 0 0 (.func (Fn.func 73) #[] #[.pointer (some ⟨w.heap.size, 0, none⟩)]) 89 85 w n h1)
  have hb : bitAt 18446744073709542398 18446744073709551615 0 0 n = textN n := text_bit ⟨n, by omega⟩
  unfold bitAt at hb
  rw [hb] at H0
  have H := Lib.hid H0
  clear H0 hb
  have hf := fun (b : Nat) W => field_has b W
  go_enter Tryz.func131, Tryz.ntmps131
  go_wp2_with (first | (go_at_call 54; refine (classOf_any _ _ _ _ _).mono ?_; rintro e w' ⟨rfl, rfl⟩) | (go_at_call 73; refine H.out.mono ?_; rintro e w' ⟨rfl, rfl⟩))
  go_ret
  exact ⟨rfl, below_two _ _ _⟩

set_option maxRecDepth 100000 in
theorem refText_any (n : Nat) (w : World) (h1 : n ≤ 255) :
    Calls Tryz.prog 74 #[.int .u8 n] w fun e w' => e = .returned (.bool (textN n)) ∧ w = w' := by
  by_cases h0 : 0 < n
  · by_cases h128 : n < 128
    · by_cases h10 : n = 10
      · subst h10
        go_enter Tryz.func74, Tryz.ntmps74
        go_wp2
        go_ret
        exact ⟨rfl, rfl⟩
      · by_cases h13 : n = 13
        · subst h13
          go_enter Tryz.func74, Tryz.ntmps74
          go_wp2
          go_ret
          exact ⟨rfl, rfl⟩
        · have R := Lib.hid (show true = textN n by unfold textN; simp; omega)
          go_enter Tryz.func74, Tryz.ntmps74
          go_wp2
          go_ret
          exact ⟨ret_bool (by rw [← R.out]; simp; omega), rfl⟩
    · have R := Lib.hid (show false = textN n by unfold textN; simp; omega)
      go_enter Tryz.func74, Tryz.ntmps74
      go_wp2
      go_ret
      exact ⟨ret_bool R.out, rfl⟩
  · obtain rfl : n = 0 := by omega
    go_enter Tryz.func74, Tryz.ntmps74
    go_wp2
    go_ret
    exact ⟨rfl, rfl⟩
end Go.Proofs.YthfopimgdikpgaaGreatDoor

namespace Go.Proofs.YthfopimgdikpgaaGreatDoor
open Go.RowKit Go.Sort Go.Lib Go.Joins

theorem holds_zero0 (w : World) (T : TypeId) (nd : Nat) (hs : nd ≤ 24) : Holds (fun (b : UInt8) => Value.int .u8 (b.toNat : Int)) (w.alloc (.cells zeros24 T)) w.heap.size 0 (Array.replicate nd (0 : UInt8)) := fun j hj => by
  have hj' : j < nd := by simpa using hj
  refine ⟨?_, World.frozen?_alloc_new _ _ _ _⟩
  rw [World.cell?_alloc_new, zeros24_at _ (by omega), getElem!_pos _ j hj]
  simp

theorem fin_row (w : World) (o : Obj) (dk : Array UInt8) (k : Nat) : ∃ os, (putRow (fun (b : UInt8) => Value.int .u8 (b.toNat : Int)) (w.alloc o) w.heap.size 0 dk).drewN k = grow (w.drewN k) os := by
  rw [alloc_eq_grow]
  obtain ⟨os', _, e⟩ := putRow_grow_new (fun (b : UInt8) => Value.int .u8 (b.toNat : Int)) w #[o] w.heap.size 0 dk (Nat.le_refl _)
  exact ⟨os', by rw [e]; rfl⟩

/-- The library's contracts, in this program's numbers. -/
theorem small_any (i : Nat) (h : i < 100) (w : World) :
    Calls Tryz.prog 164 #[.int .i64 i] w fun e w' => e = .returned (.string ⟨(decDigits i).toArray⟩) ∧ w' = w := Any.internal_strconv_small Tryz.lays283 i h w
theorem numDigits_any (u : Nat) (h1 : 1 ≤ u) (h2 : u < 18446744073709551616) (w : World) (htab : TabIs Tryz.prog w "internal/strconv.uint64pow10" .u64 pow10Tab) :
    Calls Tryz.prog 165 #[.int .u64 u] w fun e w' => e = .returned (.int .i64 (nDigits u)) ∧ w' = w := Any.internal_strconv_numDigits Tryz.laysM284 u h1 h2 w htab
theorem formatBase10_any (blk off cap : Nat) (u : Nat) (d : Array UInt8) (w : World) (hH : Holds (fun (b : UInt8) => Value.int .u8 (b.toNat : Int)) w blk off d) (hu : u < 10 ^ d.size) (hu64 : u < 18446744073709551616) (hsz : d.size < 4611686018427387904) :
    Calls Tryz.prog 166 #[.slice (some ⟨blk, off, none⟩) d.size cap, .int .u64 u] w fun e w' =>
      e = .returned (.tuple #[]) ∧ ∃ (n v' : Nat) (dk : Array UInt8), w' = (putRow (fun (b : UInt8) => Value.int .u8 (b.toNat : Int)) w blk off dk).drewN n ∧ FmtInv d.size u 0 v' dk := Any.internal_strconv_formatBase10 Tryz.lays285 blk off cap u d w hH hu hu64 hsz

theorem arr24 : Tryz.prog.arrayLen 182 = 24 := by kernel_rfl
theorem elem24 : Tryz.prog.elem 182 = 5 := by kernel_rfl

set_option maxHeartbeats 1000000 in
set_option maxRecDepth 100000 in
theorem formatUint_any (u : Nat) (hu64 : u < 18446744073709551616) (w : World) (henv : Env w) :
    Calls Tryz.prog 158 #[.int .u64 u, .int .i64 10] w fun e w' => e = .returned (.string ⟨(decDigits u).toArray⟩) ∧ Below w.heap.size w w' := by
  by_cases hs : u < 100
  · go_enter Tryz.func158, Tryz.ntmps158
    go_wp2_with (go_at_call 164; refine (small_any u hs _).mono ?_; rintro e w' ⟨rfl, rfl⟩)
    go_ret
    exact ⟨rfl, Below.refl _ _⟩
  · have hu1 : 1 ≤ u := by omega
    have hnd20 : nDigits u ≤ 20 := by have := numDigits_eq u hu1 hu64; split at this <;> omega
    have hb3 : nDigits u ≤ 24 := by omega
    have hsl : ∀ W, (Instr.sliceAt 182 (.pointer (some ⟨w.heap.size, 0, none⟩)) none (some (.int .i64 (nDigits u : Int))) none).run Tryz.prog W = .ok (.slice (some ⟨w.heap.size, 0, none⟩) (nDigits u) 24) W := fun W => by
      rw [run_sliceAt_array_h W 182 ⟨w.heap.size, 0, none⟩ (by simp [Program.arrayLen, Program.elem, Tryz.underlying182]) .i64 (nDigits u : Int) (by omega) (by rw [arr24]; omega)]
      rw [arr24, elem24]
      go_simp
    have hH0 := holds_zero0 w 182 (nDigits u) (by omega)
    have hfmt := formatBase10_any w.heap.size 0 24 u (Array.replicate (nDigits u) 0) (w.alloc (.cells zeros24 182)) hH0 (by rw [Array.size_replicate]; exact lt_pow_nDigits u) hu64 (by rw [Array.size_replicate]; omega)
    rw [Array.size_replicate] at hfmt
    have HH0 := Lib.hid hH0
    have htab := henv.tab
    clear hH0 henv
    go_enter Tryz.func158, Tryz.ntmps158
    go_wp2_with (go_at_call 165; refine (numDigits_any u hu1 hu64 _ (tabIs_alloc htab _)).mono ?_; rintro e w' ⟨rfl, rfl⟩)
    refine hfmt.mono ?_
    rintro e w' ⟨rfl, k, v', dk, rfl, hF⟩
    have hcv : (convert 22 9 (.slice (some ⟨w.heap.size, 0, none⟩) (nDigits u) 24)).run Tryz.prog ((putRow (fun (b : UInt8) => Value.int .u8 (b.toNat : Int)) (w.alloc (.cells zeros24 182)) w.heap.size 0 dk).drewN k) = .ok (.string ⟨(decDigits u).toArray⟩) ((putRow (fun (b : UInt8) => Value.int .u8 (b.toNat : Int)) (w.alloc (.cells zeros24 182)) w.heap.size 0 dk).drewN k) := by
      have h := run_convert_bytes_back (P := Tryz.prog) ((putRow (fun (b : UInt8) => Value.int .u8 (b.toNat : Int)) (w.alloc (.cells zeros24 182)) w.heap.size 0 dk).drewN k) 22 9 5 ⟨w.heap.size, 0, none⟩ 24 (decDigits u) Tryz.underlying22 Tryz.underlying5 Tryz.underlying9 (fun j hj => by
        rw [row_is_numeral hF j hj, add_plain, World.cell?_drewN]
        exact cell?_putRow (fun (b : UInt8) => Value.int .u8 (b.toNat : Int)) _ w.heap.size 0 _ dk HH0.out (by rw [hF.size, Array.size_replicate]) j (by rw [hF.size]; rw [decDigits_length] at hj; exact hj))
      rw [decDigits_length] at h
      exact h
    go_wp2
    go_ret
    obtain ⟨os, eo⟩ := fin_row w (.cells zeros24 182) dk k
    exact ⟨rfl, by rw [eo]; exact below_grow _ _ _⟩

theorem strFormatUint_any (u : Nat) (hu64 : u < 18446744073709551616) (w : World) (henv : Env w) :
    Calls Tryz.prog 148 #[.int .u64 u, .int .i64 10] w fun e w' => e = .returned (.string ⟨(decDigits u).toArray⟩) ∧ Below w.heap.size w w' := by
  have C := Lib.hid (formatUint_any u hu64 w henv)
  clear henv
  go_enter Tryz.func148, Tryz.ntmps148
  go_wp2_with (go_at_call 158; refine C.out.mono ?_; rintro e w' ⟨rfl, hb⟩)
  go_ret
  exact ⟨rfl, hb⟩

/-- The project's decimal form. -/
theorem decimal_any (u : Nat) (h : u ≤ 4294967295) (w : World) (henv : Env w) :
    Calls Tryz.prog 143 #[.int .u32 u] w fun e w' => e = .returned (.string ⟨(decDigits u).toArray⟩) ∧ Below w.heap.size w w' := by
  have C := Lib.hid (strFormatUint_any u (by omega) w henv)
  clear henv
  go_enter Tryz.func143, Tryz.ntmps143
  go_wp2_with (go_at_call 148; refine C.out.mono ?_; rintro e w' ⟨rfl, hb⟩)
  go_ret
  exact ⟨rfl, hb⟩

/-- What the project's Number makes of a string's bytes: a number whose decimal form they are. -/
def numOf (l : List UInt8) : Option Nat :=
  match parseUintB 32 l with
  | .ok u => if decDigits u = l then some u else none
  | _ => none

theorem parseUint_bad (s : ByteArray) (hlim : s.size ≤ 281474976710656) (w : World) (henv : Env w) (h : ∀ u, parseUintB 32 s.data.toList ≠ .ok u) :
    Calls Tryz.prog 142 #[.string s, .int .i64 10, .int .i64 32] w fun e w' => ∃ n N, e = .returned (.tuple #[.int .u64 n, .iface 175 (.pointer (some ⟨N, 0, none⟩))]) ∧ Below w.heap.size w w' := by
  obtain ⟨_, ⟨a, p, hs⟩, ⟨b, q, hr⟩⟩ := henv
  rcases hp : parseUintB 32 s.data.toList with u | _ | _
  · exact absurd hp (h u)
  · exact (Any.strconv_ParseUint_10_at32_syntax_var Tryz.laysPu14 s hlim hp a p w hs).mono fun e w' ⟨N, he, _, _, hb⟩ => ⟨0, N, he, hb⟩
  · exact (Any.strconv_ParseUint_10_at32_range_var Tryz.laysPu14 s hlim hp b q w hr).mono fun e w' ⟨N, he, _, _, hb⟩ => ⟨4294967295, N, he, hb⟩

theorem parseUint_ok (s : ByteArray) (hlim : s.size ≤ 281474976710656) (u : Nat) (h : parseUintB 32 s.data.toList = .ok u) (w : World) :
    Calls Tryz.prog 142 #[.string s, .int .i64 10, .int .i64 32] w fun e w' => e = .returned (.tuple #[.int .u64 u, .nilIface]) ∧ Below w.heap.size w w' :=
  (Any.strconv_ParseUint_10_at32_ok Tryz.laysPu14 s (by omega) u h w).mono fun e w' ⟨he, hw⟩ => ⟨he, by
    rcases hw with rfl | rfl
    · exact Below.refl _ _
    · exact below_bytesWorld _ _ _ _ (Nat.le_refl _)⟩
end Go.Proofs.YthfopimgdikpgaaGreatDoor

namespace Go.Proofs.YthfopimgdikpgaaGreatDoor
open Go.RowKit Go.Sort Go.Lib

set_option maxRecDepth 100000 in
theorem number_bad (s : ByteArray) (hlim : s.size ≤ 281474976710656) (w : World) (henv : Env w) (h : ∀ u, parseUintB 32 s.data.toList ≠ .ok u) :
    Calls Tryz.prog 133 #[.string s] w fun e w' => e = .returned (.tuple #[.int .u32 0, .bool false]) ∧ Below w.heap.size w w' := by
  have C := Lib.hid (parseUint_bad s hlim w henv h)
  clear henv h
  go_enter Tryz.func133, Tryz.ntmps133
  go_wp2_with (go_at_call 142; refine C.out.mono ?_; rintro e w' ⟨n, N, rfl, hb⟩)
  go_ret2
  exact ⟨rfl, hb⟩

set_option maxRecDepth 100000 in
theorem number_ok (s : ByteArray) (hlim : s.size ≤ 281474976710656) (w : World) (henv : Env w) (u : Nat) (h : parseUintB 32 s.data.toList = .ok u) (hu : u ≤ 4294967295) :
    Calls Tryz.prog 133 #[.string s] w fun e w' => e = .returned (.tuple #[.int .u32 (if decDigits u = s.data.toList then u else 0), .bool (decide (decDigits u = s.data.toList))]) ∧ Below w.heap.size w w' := by
  have C := Lib.hid (parseUint_ok s hlim u h w)
  clear h
  have D : ∀ w1, Below w.heap.size w w1 → Hid (Calls Tryz.prog 143 #[.int .u32 u] w1 fun e w' => e = .returned (.string ⟨(decDigits u).toArray⟩) ∧ Below w1.heap.size w1 w') := fun w1 hb => decimal_any u hu w1 (henv.below hb)
  clear henv
  by_cases hd : decDigits u = s.data.toList
  · rw [if_pos hd, decide_eq_true hd]
    have ht : (decDigits u == s.toList) = true := by rw [btl]; simpa using hd
    clear hd
    generalize decDigits u = l at *
    go_enter Tryz.func133, Tryz.ntmps133
    go_wp2_with (go_at_call 142; refine C.out.mono ?_; rintro e w' ⟨rfl, hb⟩)
    refine (D _ hb).out.mono ?_
    rintro e w2 ⟨rfl, hb2⟩
    go_wp2
    go_ret2
    exact ⟨rfl, below_next hb hb2⟩
  · rw [if_neg hd, decide_eq_false hd]
    have ht : (decDigits u == s.toList) = false := by rw [btl]; simpa using hd
    clear hd
    generalize decDigits u = l at *
    go_enter Tryz.func133, Tryz.ntmps133
    go_wp2_with (go_at_call 142; refine C.out.mono ?_; rintro e w' ⟨rfl, hb⟩)
    refine (D _ hb).out.mono ?_
    rintro e w2 ⟨rfl, hb2⟩
    go_wp2
    go_ret2
    exact ⟨rfl, below_next hb hb2⟩

/-- THE PROJECT's Number: the number whose decimal form the bytes are, or 0 and false. -/
theorem number_any (s : ByteArray) (hlim : s.size ≤ 281474976710656) (w : World) (henv : Env w) :
    Calls Tryz.prog 133 #[.string s] w fun e w' => e = .returned (.tuple #[.int .u32 ((numOf s.data.toList).getD 0 : Nat), .bool (numOf s.data.toList).isSome]) ∧ Below w.heap.size w w' := by
  rcases hp : parseUintB 32 s.data.toList with u | _ | _
  · have hu : u ≤ 4294967295 := by have := parseUintB_le hp; simpa using this
    have c := number_ok s hlim w henv u hp hu
    unfold numOf
    rw [hp]
    by_cases hd : decDigits u = s.data.toList
    · rw [if_pos hd, decide_eq_true hd] at c
      simpa [hd] using c
    · rw [if_neg hd, decide_eq_false hd] at c
      simpa [hd] using c
  · have c := number_bad s hlim w henv (by rw [hp]; intro u h; cases h)
    unfold numOf
    rw [hp]
    simpa using c
  · have c := number_bad s hlim w henv (by rw [hp]; intro u h; cases h)
    unfold numOf
    rw [hp]
    simpa using c
end Go.Proofs.YthfopimgdikpgaaGreatDoor

namespace Go.Proofs.YthfopimgdikpgaaGreatDoor
open Go.RowKit
open Go.Lib hiding intOf

theorem nd_le : ∀ (k u : Nat), 1 ≤ k → u < 10 ^ k → nDigits u ≤ k
  | 0, _, h, _ => by omega
  | k + 1, u, _, h => by
    by_cases hs : u < 10
    · rw [nDigits_small hs]; omega
    · rw [nDigits_big hs]
      have hk : 1 ≤ k := by
        rcases Nat.eq_zero_or_pos k with e | e
        · subst e; simp at h; omega
        · exact e
      have := nd_le k (u / 10) hk (by rw [Nat.pow_succ] at h; omega)
      omega
theorem dec_len {u : Nat} (h : u ≤ 4294967295) : (decDigits u).length ≤ 10 := by rw [decDigits_length]; exact nd_le 10 u (by omega) (by omega)
theorem digit_at : ∀ d : Fin 10, (ByteArray.mk #[48, 49, 50, 51, 52, 53, 54, 55, 56, 57]).extract d.val (d.val + 1) = ⟨#[UInt8.ofNat (48 + d.val)]⟩ := by decide +kernel
theorem dec_front (d : Nat) (hd : d < 10) (acc : List UInt8) : (ByteArray.mk #[48, 49, 50, 51, 52, 53, 54, 55, 56, 57]).extract d (d + 1) ++ ByteArray.mk acc.toArray = ⟨(UInt8.ofNat (48 + d) :: acc).toArray⟩ := by
  rw [digit_at ⟨d, hd⟩]
  apply ByteArray.ext
  simp [ByteArray.data_append]
theorem dec_step {m u : Nat} {acc : List UInt8} (h : decDigits m ++ acc = decDigits u) (hm : 10 ≤ m) : decDigits (m / 10) ++ (UInt8.ofNat (48 + m % 10) :: acc) = decDigits u := by
  rw [← h, decDigits.eq_1 m, dif_neg (by omega)]
  simp
theorem dec_last {m u : Nat} {acc : List UInt8} (h : decDigits m ++ acc = decDigits u) (hm : ¬ 10 ≤ m) : UInt8.ofNat (48 + m) :: acc = decDigits u := by
  rw [← h, decDigits_one (by omega)]
  rfl

end Go.Proofs.YthfopimgdikpgaaGreatDoor

namespace Go.Proofs.YthfopimgdikpgaaGreatDoor
open Go.RowKit
open Go.Lib hiding intOf

def isDig (c : UInt8) : Bool := decide (48 ≤ c.toNat ∧ c.toNat ≤ 57)
def valF (acc : Nat) (l : List UInt8) : Nat := l.foldl (fun a c => a * 10 + (c.toNat - 48)) acc

theorem valF_cons (acc : Nat) (c : UInt8) (l : List UInt8) : valF acc (c :: l) = valF (acc * 10 + (c.toNat - 48)) l := by unfold valF; rw [List.foldl_cons]
theorem valF_append (acc : Nat) (a b : List UInt8) : valF acc (a ++ b) = valF (valF acc a) b := by simp [valF]
theorem valF_ge : ∀ (l : List UInt8) (acc : Nat), acc ≤ valF acc l
  | [], acc => Nat.le_refl _
  | c :: l, acc => by rw [valF_cons]; have := valF_ge l (acc * 10 + (c.toNat - 48)); omega
theorem valF_lt : ∀ (l : List UInt8) (acc k : Nat), l.all isDig = true → acc < 10 ^ k → valF acc l < 10 ^ (k + l.length)
  | [], acc, k, _, h => h
  | c :: l, acc, k, ha, h => by
    simp only [List.all_cons, Bool.and_eq_true, isDig, decide_eq_true_eq] at ha
    rw [valF_cons, List.length_cons, show k + (l.length + 1) = (k + 1) + l.length by omega]
    exact valF_lt l _ _ ha.2 (by rw [Nat.pow_succ]; omega)

theorem parseM_digits (M : Nat) (hM : M < 1844674407370955162) : ∀ (l : List UInt8) (acc : Nat), l.all isDig = true → valF acc l ≤ M → parseUintM M acc l = .ok (valF acc l)
  | [], acc, _, _ => rfl
  | c :: l, acc, ha, h => by
    simp only [List.all_cons, Bool.and_eq_true, isDig, decide_eq_true_eq] at ha
    have h1 := valF_ge l (acc * 10 + (c.toNat - 48))
    rw [valF_cons] at h ⊢
    rw [parseUintM, if_pos ha.1, if_neg (by omega), if_neg (by omega)]
    exact parseM_digits M hM l _ ha.2 h

theorem dig_of (d : Nat) (h : d < 10) : (UInt8.ofNat (48 + d)).toNat = 48 + d := by rw [UInt8.toNat_ofNat']; exact Nat.mod_eq_of_lt (by omega)
theorem dec_facts (u : Nat) : (decDigits u).all isDig = true ∧ valF 0 (decDigits u) = u ∧ decDigits u ≠ [] := by
  induction u using Nat.strongRecOn with
  | _ u ih =>
    by_cases h : u < 10
    · rw [decDigits_one h]
      have := dig_of u h
      refine ⟨?_, ?_, by simp⟩
      · simp only [List.all_cons, List.all_nil, Bool.and_true, isDig, this]; simp; omega
      · rw [valF_cons, this]; simp only [valF, List.foldl_nil]; omega
    · rw [decDigits.eq_1 u, dif_neg h]
      obtain ⟨h1, h2, h3⟩ := ih (u / 10) (by omega)
      have := dig_of (u % 10) (by omega)
      refine ⟨?_, ?_, by simp⟩
      · simp only [List.all_append, h1, List.all_cons, List.all_nil, Bool.and_true, Bool.true_and, isDig, this]; simp; omega
      · rw [valF_append, h2, valF_cons, this]; simp only [valF, List.foldl_nil]; omega

theorem numOf_dec {u : Nat} (h : u ≤ 4294967295) : numOf (decDigits u) = some u := by
  obtain ⟨h1, h2, h3⟩ := dec_facts u
  unfold numOf parseUintB
  rw [if_neg h3, show (2 : Nat) ^ 32 - 1 = 4294967295 from rfl, parseM_digits 4294967295 (by omega) _ _ h1 (by rw [h2]; exact h), h2]
  simp
theorem numOf_some {l : List UInt8} {u : Nat} (h : numOf l = some u) : u ≤ 4294967295 ∧ decDigits u = l := by
  unfold numOf at h
  rcases hp : parseUintB 32 l with v | _ | _
  · rw [hp] at h
    simp only at h
    split at h
    · rename_i hd
      obtain rfl := Option.some.inj h
      exact ⟨by have := parseUintB_le hp; simpa using this, hd⟩
    · cases h
  · rw [hp] at h; cases h
  · rw [hp] at h; cases h
theorem numOf_not {l : List UInt8} (h : ∀ u, u ≤ 4294967295 → decDigits u ≠ l) : numOf l = none := by
  cases hn : numOf l with
  | none => rfl
  | some u => obtain ⟨a, b⟩ := numOf_some hn; exact absurd b (h u a)
theorem numOf_long {l : List UInt8} (h : 10 < l.length) : numOf l = none := numOf_not fun u hu e => by
  have := dec_len hu
  rw [e] at this
  omega
theorem numOf_nodig {l : List UInt8} (h : l.all isDig = false) : numOf l = none := numOf_not fun u hu e => by
  have := (dec_facts u).1
  rw [e, h] at this
  cases this
theorem numOf_big {l : List UInt8} (h : 4294967295 < valF 0 l) : numOf l = none := numOf_not fun u hu e => by
  have := (dec_facts u).2.1
  rw [e] at this
  omega
theorem numOf_same {l : List UInt8} (h : valF 0 l ≤ 4294967295) (hd : decDigits (valF 0 l) = l) : numOf l = some (valF 0 l) := by
  have := numOf_dec h
  rw [hd] at this
  exact this
theorem numOf_other {l : List UInt8} (hd : decDigits (valF 0 l) ≠ l) : numOf l = none := numOf_not fun u hu e => by
  have := (dec_facts u).2.1
  rw [e] at this
  exact hd (by rw [this]; exact e)
end Go.Proofs.YthfopimgdikpgaaGreatDoor

namespace Go.Proofs.YthfopimgdikpgaaGreatDoor
open Go.RowKit
open Go.Lib hiding intOf

set_option maxRecDepth 100000 in
set_option maxHeartbeats 400000 in
theorem refDecimal_any (u : Nat) (hu : u ≤ 4294967295) (w : World) :
    Calls Tryz.prog 92 #[.int .u32 u] w fun e w' => e = .returned (.string ⟨(decDigits u).toArray⟩) ∧ w = w' := by
  go_enter Tryz.func92, Tryz.ntmps92
  go_wp2_with fail
  go_loop [0, 3] (fun n s => ∃ (m : Nat) (acc : List UInt8), m ≤ u ∧ n = .int .u32 m ∧ s = .string ⟨acc.toArray⟩ ∧ decDigits m ++ acc = decDigits u) (fun n _ => (intOf n).toNat)
  case atStart => exact ⟨u, [], Nat.le_refl _, rfl, rfl, by simp⟩
  case round =>
    obtain ⟨m, acc, hm, rfl, rfl, he⟩ := hrel
    have HE := Lib.hid he
    clear he
    have hal : acc.length ≤ 10 := by
      have h1 := congrArg List.length HE.out
      have h2 := dec_len hu
      rw [List.length_append] at h1
      omega
    by_cases hlt : 10 ≤ m
    · go_wp2_with fail
      go_round
      case rel => exact ⟨m / 10, _, by omega, by go_num, congrArg Value.string (dec_front (m % 10) (by omega) acc), dec_step HE.out hlt⟩
      case measure => simp [intOf]; omega
    · go_wp2_with fail
      go_ret
      exact ⟨by rw [← dec_last HE.out hlt, ← dec_front m (by omega) acc]; rfl, rfl⟩
end Go.Proofs.YthfopimgdikpgaaGreatDoor

namespace Go.Proofs.YthfopimgdikpgaaGreatDoor
open Go.RowKit
open Go.Lib hiding intOf

theorem val_snoc (s : ByteArray) (k : Nat) (h : k < s.size) : valF 0 (s.data.toList.take (k + 1)) = valF 0 (s.data.toList.take k) * 10 + (s[k].toNat - 48) := by
  rw [take_snocB s k h, valF_append]
  simp only [valF, List.foldl_cons, List.foldl_nil]
theorem dig_snoc (s : ByteArray) (k : Nat) (h : k < s.size) (ha : (s.data.toList.take k).all isDig = true) (h1 : 48 ≤ s[k].toNat) (h2 : s[k].toNat ≤ 57) : (s.data.toList.take (k + 1)).all isDig = true := by
  rw [take_snocB s k h, List.all_append, ha]
  simp [isDig, h1, h2]
theorem dig_no (s : ByteArray) (k : Nat) (h : k < s.size) (h1 : s[k].toNat < 48 ∨ 57 < s[k].toNat) : s.data.toList.all isDig = false := by
  rw [List.all_eq_false]
  exact ⟨s[k], by simp [ByteArray.getElem_eq_getElem_data], by simp [isDig]; omega⟩
theorem val_bound (s : ByteArray) (k : Nat) (ha : (s.data.toList.take k).all isDig = true) (hk : k ≤ 10) : valF 0 (s.data.toList.take k) < 10000000000 := by
  have := valF_lt _ 0 0 ha (by omega)
  have hl : (s.data.toList.take k).length ≤ 10 := Nat.le_trans (List.length_take_le _ _) hk
  have hp : 10 ^ (0 + (s.data.toList.take k).length) ≤ 10 ^ 10 := Nat.pow_le_pow_right (by omega) (by omega)
  omega

theorem val_int {k : IntKind} {a b : Int} (h : a = b) : Value.int k a = .int k b := by rw [h]

set_option maxRecDepth 100000 in
set_option maxHeartbeats 400000 in
theorem refNumber_any (s : ByteArray) (hs : s.size ≤ 1000000000) (w : World) :
    Calls Tryz.prog 75 #[.string s] w fun e w' => e = .returned (.tuple #[.int .u32 ((numOf s.data.toList).getD 0 : Nat), .bool (numOf s.data.toList).isSome]) ∧ w = w' := by
  by_cases hl : s.size ≤ 10
  · go_enter Tryz.func75, Tryz.ntmps75
    go_wp2_with fail
    go_loop [4, 5] (fun n i => ∃ k : Nat, k ≤ s.size ∧ i = .int .i64 k ∧ n = .int .u64 (valF 0 (s.data.toList.take k) : Nat) ∧ (s.data.toList.take k).all isDig = true) (fun _ i => s.size - (intOf i).toNat)
    case atStart => exact ⟨0, Nat.zero_le _, rfl, rfl, rfl⟩
    case round =>
      obtain ⟨k, hk, rfl, rfl, ha⟩ := hrel
      have HA := Lib.hid ha
      have hvb := val_bound s k ha (by omega)
      clear ha
      by_cases hlt : k < s.size
      · have HV := Lib.hid (val_snoc s k hlt)
        have hc := s[k].toNat_lt
        generalize hx : valF 0 (s.data.toList.take k) = x at *
        have HX := Lib.hid hx
        clear hx
        by_cases h1 : 48 ≤ s[k].toNat
        · by_cases h2 : s[k].toNat ≤ 57
          · have HD := Lib.hid (dig_snoc s k hlt HA.out h1 h2)
            go_wp2_with fail
            go_round
            case rel => exact ⟨k + 1, by omega, by go_num, val_int (by rw [HV.out]; omega), HD.out⟩
            case measure => simp [intOf]; omega
          · have HN := Lib.hid (numOf_nodig (dig_no s k hlt (Or.inr (by omega))))
            go_wp2_with fail
            go_ret2
            exact ⟨by rw [HN.out]; rfl, rfl⟩
        · have HN := Lib.hid (numOf_nodig (dig_no s k hlt (Or.inl (by omega))))
          go_wp2_with fail
          go_ret2
          exact ⟨by rw [HN.out]; rfl, rfl⟩
      · obtain rfl : k = s.size := by omega
        rw [take_all] at HA hvb
        rw [take_all]
        by_cases hbig : valF 0 s.data.toList ≤ 4294967295
        · have D := Lib.hid (refDecimal_any (valF 0 s.data.toList) hbig w)
          by_cases hd : decDigits (valF 0 s.data.toList) = s.data.toList
          · have HN := Lib.hid (numOf_same hbig hd)
            have ht : (decDigits (valF 0 s.data.toList) == s.toList) = true := by rw [btl]; simpa using hd
            clear hd
            generalize decDigits (valF 0 s.data.toList) = l at *
            generalize valF 0 s.data.toList = x at *
            go_wp2_with fail
            refine D.out.mono ?_
            rintro e w1 ⟨rfl, rfl⟩
            go_wp2_with fail
            go_ret2
            exact ⟨by rw [HN.out]; rfl, rfl⟩
          · have HN := Lib.hid (numOf_other hd)
            have ht : (decDigits (valF 0 s.data.toList) == s.toList) = false := by rw [btl]; simpa using hd
            clear hd
            generalize decDigits (valF 0 s.data.toList) = l at *
            generalize valF 0 s.data.toList = x at *
            go_wp2_with fail
            refine D.out.mono ?_
            rintro e w1 ⟨rfl, rfl⟩
            go_wp2_with fail
            go_ret2
            exact ⟨by rw [HN.out]; rfl, rfl⟩
        · have HN := Lib.hid (numOf_big (l := s.data.toList) (by omega))
          generalize valF 0 s.data.toList = x at *
          go_wp2_with fail
          go_ret2
          exact ⟨by rw [HN.out]; rfl, rfl⟩
  · have HN := Lib.hid (numOf_long (l := s.data.toList) (by simp; omega))
    go_enter Tryz.func75, Tryz.ntmps75
    go_wp2_with fail
    go_ret2
    exact ⟨by rw [HN.out]; rfl, rfl⟩
end Go.Proofs.YthfopimgdikpgaaGreatDoor
