import Derived.Test.YtpgfnlhfciacoaaGreatDoorPGa
import Derived.Laws.EntriesVeiled
import Derived.Test.YtpgfnlhfciacoaaGreatDoorShelf
import Derived.BigCall
import Derived.Lib.SmallJoins
import Derived.BigGuard
import Derived.Maps.RangeWalk
import Derived.Lib.ConvBytes
set_option maxRecDepth 100000
set_option maxHeartbeats 1000000
open Go.Lib renaming hid → Hi
namespace Go.Proofs.YtpgfnlhfciacoaaGreatDoor
open Go.RowKit
structure Env (w : World) : Prop where
 tab : Lib.TabIs Tryz.prog w "internal/strconv.uint64pow10" .u64 Lib.pow10Tab
 syn : ∃ tp p, w.var? Tryz.prog "strconv.ErrSyntax" = some #[.iface tp p]
 rng : ∃ tp p, w.var? Tryz.prog "strconv.ErrRange" = some #[.iface tp p]
theorem globTab : Tryz.prog.globalNamed "internal/strconv.uint64pow10" = some 1 := by kernel_rfl
theorem globSyn : Tryz.prog.globalNamed "strconv.ErrSyntax" = some 4 := by kernel_rfl
theorem globRng : Tryz.prog.globalNamed "strconv.ErrRange" = some 5 := by kernel_rfl
theorem Env.below {w w' : World} (h : Env w) (hb : Below w.heap.size w w') : Env w' := by
 obtain ⟨t, ⟨a, p, s⟩, ⟨b, q, r⟩⟩ := h
 exact ⟨var?_below hb globTab (var_lt globTab t) t, ⟨a, p, var?_below hb globSyn (var_lt globSyn s) s⟩, ⟨b, q, var?_below hb globRng (var_lt globRng r) r⟩⟩
theorem Env.alloc {w : World} (h : Env w) (o : Obj) : Env (w.alloc o) := h.below ((Below.refl _ _).alloc (Nat.le_refl _) _)
theorem classOf_any (a b c d : Int) (w : World) :
 Calls Tryz.prog 105 #[.agg #[.int .u64 a, .int .u64 b, .int .u64 c, .int .u64 d]] w fun e w' =>
  e = .returned (.agg #[.func (Fn.func 147) #[] #[.pointer (some ⟨w.heap.size, 0, none⟩)]]) ∧
  (w.alloc (.cells #[.int .u64 a, .int .u64 b, .int .u64 c, .int .u64 d] 151)).alloc (.cells #[.func (Fn.func 147) #[] #[.pointer (some ⟨w.heap.size, 0, none⟩)]] 148) = w' := by
 go_enter Tryz.func105, Tryz.ntmps105
 go_wp2
 exact bodyPost_ret (v := .agg #[.func (Fn.func 147) #[] #[.pointer (some ⟨w.heap.size, 0, none⟩)]]) (by simp [results, Tryz.results105, go_sem]) rfl ⟨rfl, rfl⟩
theorem has_any (n : Nat) (x : Int) (b : Nat) (w : World) (h1 : n ≤ 255) (hc : w.cell? ⟨b, n / 64, none⟩ = some (.int .u64 x)) :
 Calls Tryz.prog 147 #[.int .u8 n, .pointer (some ⟨b, 0, none⟩)] w fun e w' => e = .returned (.bool (bits BinOp.and IntKind.u64 (x / 2 ^ (n % 64)) 1 == 1)) ∧ w = w' := by
 go_enter Tryz.func147, Tryz.ntmps147
 go_wp2
 go_ret
 exact ⟨rfl, rfl⟩
theorem word_at (a b c d : Int) (v : Value) (t u : TypeId) (w : World) (n : Nat) (h1 : n ≤ 255) :
 ((w.alloc (.cells #[.int .u64 a, .int .u64 b, .int .u64 c, .int .u64 d] t)).alloc (.cells #[v] u)).cell? ⟨w.heap.size, n / 64, none⟩ = some (.int .u64 (if n / 64 = 0 then a else if n / 64 = 1 then b else if n / 64 = 2 then c else d)) := by
 have hn : n / 64 < 4 := by omega
 generalize n / 64 = k at hn
 rw [World.cell?_alloc_old _ _ _ (by simp)]
 rw [World.cell?_alloc_new]
 match k, hn with
 | 0, _ => rfl
 | 1, _ => rfl
 | 2, _ => rfl
 | 3, _ => rfl
theorem field_has (b : Nat) (w : World) : (Instr.field 148 (.agg #[.func (Fn.func 147) #[] #[.pointer (some ⟨b, 0, none⟩)]]) 0).run Tryz.prog w = .ok (.func (Fn.func 147) #[] #[.pointer (some ⟨b, 0, none⟩)]) w := by kernel_rfl
theorem below_two (w : World) (o1 o2 : Obj) : Below w.heap.size w ((w.alloc o1).alloc o2) := ((Below.refl _ _).alloc (Nat.le_refl _) _).alloc (by simp) _
theorem text_any (n : Nat) (w : World) (h1 : n ≤ 255) :
 Calls Tryz.prog 227 #[.int .u8 n] w fun e w' => e = .returned (.bool (textN n)) ∧ Below w.heap.size w w' := by
 have H0 := has_any n _ _ _ h1 (word_at 18446744073709542398 18446744073709551615 0 0 (.func (Fn.func 147) #[] #[.pointer (some ⟨w.heap.size, 0, none⟩)]) 151 148 w n h1)
 have hb : bitAt 18446744073709542398 18446744073709551615 0 0 n = textN n := text_bit ⟨n, by omega⟩
 unfold bitAt at hb
 rw [hb] at H0
 have H := Hi H0
 clear H0 hb
 have hf := fun (b : Nat) W => field_has b W
 go_enter Tryz.func227, Tryz.ntmps227
 go_wp2_with (first | (go_at_call 105; refine (classOf_any _ _ _ _ _).mono ?_; rintro e w' ⟨rfl, rfl⟩) | (go_at_call 147; refine H.out.mono ?_; rintro e w' ⟨rfl, rfl⟩))
 go_ret
 exact ⟨rfl, below_two _ _ _⟩
theorem refText_any (n : Nat) (w : World) (h1 : n ≤ 255) :
 Calls Tryz.prog 170 #[.int .u8 n] w fun e w' => e = .returned (.bool (textN n)) ∧ w = w' := by
 by_cases h0 : 0 < n
 · by_cases h128 : n < 128
   · by_cases h10 : n = 10
     · subst h10
       go_enter Tryz.func170, Tryz.ntmps170
       go_wp2
       go_ret
       exact ⟨rfl, rfl⟩
     · by_cases h13 : n = 13
       · subst h13
         go_enter Tryz.func170, Tryz.ntmps170
         go_wp2
         go_ret
         exact ⟨rfl, rfl⟩
       · have R := Hi (show true = textN n by unfold textN; simp; omega)
         go_enter Tryz.func170, Tryz.ntmps170
         go_wp2
         go_ret
         exact ⟨YU (by rw [← R.out]; simp; omega), rfl⟩
   · have R := Hi (show false = textN n by unfold textN; simp; omega)
     go_enter Tryz.func170, Tryz.ntmps170
     go_wp2
     go_ret
     exact ⟨YU R.out, rfl⟩
 · obtain rfl : n = 0 := by omega
   go_enter Tryz.func170, Tryz.ntmps170
   go_wp2
   go_ret
   exact ⟨rfl, rfl⟩
theorem atom_any (n : Nat) (w : World) (h1 : n ≤ 255) :
 Calls Tryz.prog 180 #[.int .u8 n] w fun e w' => e = .returned (.bool (atomN n)) ∧ Below w.heap.size w w' := by
 have H0 := has_any n _ _ _ h1 (word_at 18446736213919399936 8646911283746045951 0 0 (.func (Fn.func 147) #[] #[.pointer (some ⟨w.heap.size, 0, none⟩)]) 151 148 w n h1)
 have hb : bitAt 18446736213919399936 8646911283746045951 0 0 n = atomN n := atom_bit ⟨n, by omega⟩
 unfold bitAt at hb
 rw [hb] at H0
 have H := Hi H0
 clear H0 hb
 have hf := fun (b : Nat) W => field_has b W
 go_enter Tryz.func180, Tryz.ntmps180
 go_wp2_with (first | (go_at_call 105; refine (classOf_any _ _ _ _ _).mono ?_; rintro e w' ⟨rfl, rfl⟩) | (go_at_call 147; refine H.out.mono ?_; rintro e w' ⟨rfl, rfl⟩))
 go_ret
 exact ⟨rfl, below_two _ _ _⟩
section
open Go.Sort Go.Lib Go.Joins
theorem holds_zero0 (w : World) (T : TypeId) (nd : Nat) (hs : nd ≤ 24) : Holds (fun (b : UInt8) => Value.int .u8 (b.toNat : Int)) (w.alloc (.cells zeros24 T)) w.heap.size 0 (Array.replicate nd (0 : UInt8)) := fun j hj => by
 have hj' : j < nd := by simpa using hj
 refine ⟨?_, World.frozen?_alloc_new _ _ _ _⟩
 rw [World.cell?_alloc_new, zeros24_at _ (by omega), getElem!_pos _ j hj]
 simp
theorem fin_row (w : World) (o : Obj) (dk : Array UInt8) (k : Nat) : ∃ os, (putRow (fun (b : UInt8) => Value.int .u8 (b.toNat : Int)) (w.alloc o) w.heap.size 0 dk).drewN k = grow (w.drewN k) os := by
 rw [alloc_eq_grow]
 obtain ⟨os', _, e⟩ := putRow_grow_new (fun (b : UInt8) => Value.int .u8 (b.toNat : Int)) w #[o] w.heap.size 0 dk (Nat.le_refl _)
 exact ⟨os', by rw [e]; rfl⟩
theorem small_any (i : Nat) (h : i < 100) (w : World) :
 Calls Tryz.prog 159 #[.int .i64 i] w fun e w' => e = .returned (.string ⟨(decDigits i).toArray⟩) ∧ w' = w := Any.internal_strconv_small Tryz.lays283 i h w
theorem numDigits_any (u : Nat) (h1 : 1 ≤ u) (h2 : u < 18446744073709551616) (w : World) (htab : TabIs Tryz.prog w "internal/strconv.uint64pow10" .u64 pow10Tab) :
 Calls Tryz.prog 160 #[.int .u64 u] w fun e w' => e = .returned (.int .i64 (nDigits u)) ∧ w' = w := Any.internal_strconv_numDigits Tryz.laysM284 u h1 h2 w htab
theorem formatBase10_any (blk off cap : Nat) (u : Nat) (d : Array UInt8) (w : World) (hH : Holds (fun (b : UInt8) => Value.int .u8 (b.toNat : Int)) w blk off d) (hu : u < 10 ^ d.size) (hu64 : u < 18446744073709551616) (hsz : d.size < 4611686018427387904) :
 Calls Tryz.prog 161 #[.slice (some ⟨blk, off, none⟩) d.size cap, .int .u64 u] w fun e w' =>
  e = .returned (.tuple #[]) ∧ ∃ (n v' : Nat) (dk : Array UInt8), w' = (putRow (fun (b : UInt8) => Value.int .u8 (b.toNat : Int)) w blk off dk).drewN n ∧ FmtInv d.size u 0 v' dk := Any.internal_strconv_formatBase10 Tryz.lays285 blk off cap u d w hH hu hu64 hsz
theorem arr24 : Tryz.prog.arrayLen 181 = 24 := by kernel_rfl
theorem elem24 : Tryz.prog.elem 181 = 5 := by kernel_rfl
theorem formatUint_any (u : Nat) (hu64 : u < 18446744073709551616) (w : World) (henv : Env w) :
 Calls Tryz.prog 118 #[.int .u64 u, .int .i64 10] w fun e w' => e = .returned (.string ⟨(decDigits u).toArray⟩) ∧ Below w.heap.size w w' := by
 by_cases hs : u < 100
 · go_enter Tryz.func118, Tryz.ntmps118
   go_wp2_with (go_at_call 159; refine (small_any u hs _).mono ?_; rintro e w' ⟨rfl, rfl⟩)
   go_ret
   exact ⟨rfl, Below.refl _ _⟩
 · have hu1 : 1 ≤ u := by omega
   have hnd20 : nDigits u ≤ 20 := by have := numDigits_eq u hu1 hu64; split at this <;> omega
   have hb3 : nDigits u ≤ 24 := by omega
   have hsl : ∀ W, (Instr.sliceAt 181 (.pointer (some ⟨w.heap.size, 0, none⟩)) none (some (.int .i64 (nDigits u : Int))) none).run Tryz.prog W = .ok (.slice (some ⟨w.heap.size, 0, none⟩) (nDigits u) 24) W := fun W => by
    rw [run_sliceAt_array_h W 181 ⟨w.heap.size, 0, none⟩ (by simp [Program.arrayLen, Program.elem, Tryz.underlying181]) .i64 (nDigits u : Int) (by omega) (by rw [arr24]; omega)]
    rw [arr24, elem24]
    go_simp
   have hH0 := holds_zero0 w 181 (nDigits u) (by omega)
   have hfmt := formatBase10_any w.heap.size 0 24 u (Array.replicate (nDigits u) 0) (w.alloc (.cells zeros24 181)) hH0 (by rw [Array.size_replicate]; exact lt_pow_nDigits u) hu64 (by rw [Array.size_replicate]; omega)
   rw [Array.size_replicate] at hfmt
   have HH0 := Hi hH0
   have htab := henv.tab
   clear hH0 henv
   go_enter Tryz.func118, Tryz.ntmps118
   go_wp2_with (go_at_call 160; refine (numDigits_any u hu1 hu64 _ (tabIs_alloc htab _)).mono ?_; rintro e w' ⟨rfl, rfl⟩)
   refine hfmt.mono ?_
   rintro e w' ⟨rfl, k, v', dk, rfl, hF⟩
   have hcv : (convert 24 9 (.slice (some ⟨w.heap.size, 0, none⟩) (nDigits u) 24)).run Tryz.prog ((putRow (fun (b : UInt8) => Value.int .u8 (b.toNat : Int)) (w.alloc (.cells zeros24 181)) w.heap.size 0 dk).drewN k) = .ok (.string ⟨(decDigits u).toArray⟩) ((putRow (fun (b : UInt8) => Value.int .u8 (b.toNat : Int)) (w.alloc (.cells zeros24 181)) w.heap.size 0 dk).drewN k) := by
    have h := run_convert_bytes_back (P := Tryz.prog) ((putRow (fun (b : UInt8) => Value.int .u8 (b.toNat : Int)) (w.alloc (.cells zeros24 181)) w.heap.size 0 dk).drewN k) 24 9 5 ⟨w.heap.size, 0, none⟩ 24 (decDigits u) Tryz.underlying24 Tryz.underlying5 Tryz.underlying9 (fun j hj => by
     rw [row_is_numeral hF j hj, add_plain, World.cell?_drewN]
     exact cell?_putRow (fun (b : UInt8) => Value.int .u8 (b.toNat : Int)) _ w.heap.size 0 _ dk HH0.out (by rw [hF.size, Array.size_replicate]) j (by rw [hF.size]; rw [decDigits_length] at hj; exact hj))
    rw [decDigits_length] at h
    exact h
   go_wp2
   go_ret
   obtain ⟨os, eo⟩ := fin_row w (.cells zeros24 181) dk k
   exact ⟨rfl, by rw [eo]; exact below_grow _ _ _⟩
theorem strFormatUint_any (u : Nat) (hu64 : u < 18446744073709551616) (w : World) (henv : Env w) :
 Calls Tryz.prog 73 #[.int .u64 u, .int .i64 10] w fun e w' => e = .returned (.string ⟨(decDigits u).toArray⟩) ∧ Below w.heap.size w w' := by
 have C := Hi (formatUint_any u hu64 w henv)
 clear henv
 go_enter Tryz.func73, Tryz.ntmps73
 go_wp2_with (go_at_call 118; refine C.out.mono ?_; rintro e w' ⟨rfl, hb⟩)
 go_ret
 exact ⟨rfl, hb⟩
theorem decimal_any (u : Nat) (h : u ≤ 4294967295) (w : World) (henv : Env w) :
 Calls Tryz.prog 36 #[.int .u32 u] w fun e w' => e = .returned (.string ⟨(decDigits u).toArray⟩) ∧ Below w.heap.size w w' := by
 have C := Hi (strFormatUint_any u (by omega) w henv)
 clear henv
 go_enter Tryz.func36, Tryz.ntmps36
 go_wp2_with (go_at_call 73; refine C.out.mono ?_; rintro e w' ⟨rfl, hb⟩)
 go_ret
 exact ⟨rfl, hb⟩
def QH (l : List UInt8) : Option Nat :=
 match parseUintB 32 l with
 | .ok u => if decDigits u = l then some u else none
 | _ => none
theorem parseUint_bad (s : ByteArray) (hlim : s.size ≤ 281474976710656) (w : World) (henv : Env w) (h : ∀ u, parseUintB 32 s.data.toList ≠ .ok u) :
 Calls Tryz.prog 217 #[.string s, .int .i64 10, .int .i64 32] w fun e w' => ∃ n N, e = .returned (.tuple #[.int .u64 n, .iface 243 (.pointer (some ⟨N, 0, none⟩))]) ∧ Below w.heap.size w w' := by
 obtain ⟨_, ⟨a, p, hs⟩, ⟨b, q, hr⟩⟩ := henv
 rcases hp : parseUintB 32 s.data.toList with u | _ | _
 · exact absurd hp (h u)
 · exact (Any.strconv_ParseUint_10_at32_syntax_var Tryz.laysPu14 s hlim hp a p w hs).mono fun e w' ⟨N, he, _, _, hb⟩ => ⟨0, N, he, hb⟩
 · exact (Any.strconv_ParseUint_10_at32_range_var Tryz.laysPu14 s hlim hp b q w hr).mono fun e w' ⟨N, he, _, _, hb⟩ => ⟨4294967295, N, he, hb⟩
theorem parseUint_ok (s : ByteArray) (hlim : s.size ≤ 281474976710656) (u : Nat) (h : parseUintB 32 s.data.toList = .ok u) (w : World) :
 Calls Tryz.prog 217 #[.string s, .int .i64 10, .int .i64 32] w fun e w' => e = .returned (.tuple #[.int .u64 u, .nilIface]) ∧ Below w.heap.size w w' :=
 (Any.strconv_ParseUint_10_at32_ok Tryz.laysPu14 s (by omega) u h w).mono fun e w' ⟨he, hw⟩ => ⟨he, by
  rcases hw with rfl | rfl
  · exact Below.refl _ _
  · exact below_bytesWorld _ _ _ _ (Nat.le_refl _)⟩
end
section
open Go.Sort Go.Lib
theorem number_bad (s : ByteArray) (hlim : s.size ≤ 281474976710656) (w : World) (henv : Env w) (h : ∀ u, parseUintB 32 s.data.toList ≠ .ok u) :
 Calls Tryz.prog 198 #[.string s] w fun e w' => e = .returned (.tuple #[.int .u32 0, .bool false]) ∧ Below w.heap.size w w' := by
 have C := Hi (parseUint_bad s hlim w henv h)
 clear henv h
 go_enter Tryz.func198, Tryz.ntmps198
 go_wp2_with (go_at_call 217; refine C.out.mono ?_; rintro e w' ⟨n, N, rfl, hb⟩)
 go_ret2
 exact ⟨rfl, hb⟩
theorem number_ok (s : ByteArray) (hlim : s.size ≤ 281474976710656) (w : World) (henv : Env w) (u : Nat) (h : parseUintB 32 s.data.toList = .ok u) (hu : u ≤ 4294967295) :
 Calls Tryz.prog 198 #[.string s] w fun e w' => e = .returned (.tuple #[.int .u32 (if decDigits u = s.data.toList then u else 0), .bool (decide (decDigits u = s.data.toList))]) ∧ Below w.heap.size w w' := by
 have C := Hi (parseUint_ok s hlim u h w)
 clear h
 have D : ∀ w1, Below w.heap.size w w1 → Hid (Calls Tryz.prog 36 #[.int .u32 u] w1 fun e w' => e = .returned (.string ⟨(decDigits u).toArray⟩) ∧ Below w1.heap.size w1 w') := fun w1 hb => decimal_any u hu w1 (henv.below hb)
 clear henv
 by_cases hd : decDigits u = s.data.toList
 · rw [if_pos hd, decide_eq_true hd]
   have ht : (decDigits u == s.toList) = true := by rw [btl]; simpa using hd
   clear hd
   generalize decDigits u = l at *
   go_enter Tryz.func198, Tryz.ntmps198
   go_wp2_with (go_at_call 217; refine C.out.mono ?_; rintro e w' ⟨rfl, hb⟩)
   refine (D _ hb).out.mono ?_
   rintro e w2 ⟨rfl, hb2⟩
   go_wp2
   go_ret2
   exact ⟨rfl, YA hb hb2⟩
 · rw [if_neg hd, decide_eq_false hd]
   have ht : (decDigits u == s.toList) = false := by rw [btl]; simpa using hd
   clear hd
   generalize decDigits u = l at *
   go_enter Tryz.func198, Tryz.ntmps198
   go_wp2_with (go_at_call 217; refine C.out.mono ?_; rintro e w' ⟨rfl, hb⟩)
   refine (D _ hb).out.mono ?_
   rintro e w2 ⟨rfl, hb2⟩
   go_wp2
   go_ret2
   exact ⟨rfl, YA hb hb2⟩
theorem number_any (s : ByteArray) (hlim : s.size ≤ 281474976710656) (w : World) (henv : Env w) :
 Calls Tryz.prog 198 #[.string s] w fun e w' => e = .returned (.tuple #[.int .u32 ((QH s.data.toList).getD 0 : Nat), .bool (QH s.data.toList).isSome]) ∧ Below w.heap.size w w' := by
 rcases hp : parseUintB 32 s.data.toList with u | _ | _
 · have hu : u ≤ 4294967295 := by have := parseUintB_le hp; simpa using this
   have c := number_ok s hlim w henv u hp hu
   unfold QH
   rw [hp]
   by_cases hd : decDigits u = s.data.toList
   · rw [if_pos hd, decide_eq_true hd] at c
     simpa [hd] using c
   · rw [if_neg hd, decide_eq_false hd] at c
     simpa [hd] using c
 · have c := number_bad s hlim w henv (by rw [hp]; intro u h; cases h)
   unfold QH
   rw [hp]
   simpa using c
 · have c := number_bad s hlim w henv (by rw [hp]; intro u h; cases h)
   unfold QH
   rw [hp]
   simpa using c
end
section
open Go.Lib hiding intOf
theorem nd_le : ∀ (k u : Nat), 1 ≤ k → u < 10 ^ k → nDigits u ≤ k
 | 0, _, h, _ => by omega
 | k + 1, u, _, h => by
   by_cases hs : u < 10
   · rw [nDigits_small hs]; omega
   · rw [nDigits_big hs]
     have hk : 1 ≤ k := by
      rcases Nat.eq_zero_or_pos k with e | e
      · subst e; simp at h; omega
      · exact e
     have := nd_le k (u / 10) hk (by rw [Nat.pow_succ] at h; omega)
     omega
theorem dec_len {u : Nat} (h : u ≤ 4294967295) : (decDigits u).length ≤ 10 := by rw [decDigits_length]; exact nd_le 10 u (by omega) (by omega)
theorem digit_at : ∀ d : Fin 10, (ByteArray.mk #[48, 49, 50, 51, 52, 53, 54, 55, 56, 57]).extract d.val (d.val + 1) = ⟨#[UInt8.ofNat (48 + d.val)]⟩ := by decide +kernel
theorem dec_front (d : Nat) (hd : d < 10) (acc : List UInt8) : (ByteArray.mk #[48, 49, 50, 51, 52, 53, 54, 55, 56, 57]).extract d (d + 1) ++ ByteArray.mk acc.toArray = ⟨(UInt8.ofNat (48 + d) :: acc).toArray⟩ := by
 rw [digit_at ⟨d, hd⟩]
 apply ByteArray.ext
 simp [ByteArray.data_append]
theorem dec_step {m u : Nat} {acc : List UInt8} (h : decDigits m ++ acc = decDigits u) (hm : 10 ≤ m) : decDigits (m / 10) ++ (UInt8.ofNat (48 + m % 10) :: acc) = decDigits u := by
 rw [← h, decDigits.eq_1 m, dif_neg (by omega)]
 simp
theorem dec_last {m u : Nat} {acc : List UInt8} (h : decDigits m ++ acc = decDigits u) (hm : ¬ 10 ≤ m) : UInt8.ofNat (48 + m) :: acc = decDigits u := by
 rw [← h, decDigits_one (by omega)]
 rfl
def QC (c : UInt8) : Bool := decide (48 ≤ c.toNat ∧ c.toNat ≤ 57)
def valF (acc : Nat) (l : List UInt8) : Nat := l.foldl (fun a c => a * 10 + (c.toNat - 48)) acc
theorem valF_cons (acc : Nat) (c : UInt8) (l : List UInt8) : valF acc (c :: l) = valF (acc * 10 + (c.toNat - 48)) l := by unfold valF; rw [List.foldl_cons]
theorem valF_append (acc : Nat) (a b : List UInt8) : valF acc (a ++ b) = valF (valF acc a) b := by simp [valF]
theorem valF_ge : ∀ (l : List UInt8) (acc : Nat), acc ≤ valF acc l
 | [], acc => Nat.le_refl _
 | c :: l, acc => by rw [valF_cons]; have := valF_ge l (acc * 10 + (c.toNat - 48)); omega
theorem valF_lt : ∀ (l : List UInt8) (acc k : Nat), l.all QC = true → acc < 10 ^ k → valF acc l < 10 ^ (k + l.length)
 | [], acc, k, _, h => h
 | c :: l, acc, k, ha, h => by
   simp only [List.all_cons, Bool.and_eq_true, QC, decide_eq_true_eq] at ha
   rw [valF_cons, List.length_cons, show k + (l.length + 1) = (k + 1) + l.length by omega]
   exact valF_lt l _ _ ha.2 (by rw [Nat.pow_succ]; omega)
theorem parseM_digits (M : Nat) (hM : M < 1844674407370955162) : ∀ (l : List UInt8) (acc : Nat), l.all QC = true → valF acc l ≤ M → parseUintM M acc l = .ok (valF acc l)
 | [], acc, _, _ => rfl
 | c :: l, acc, ha, h => by
   simp only [List.all_cons, Bool.and_eq_true, QC, decide_eq_true_eq] at ha
   have h1 := valF_ge l (acc * 10 + (c.toNat - 48))
   rw [valF_cons] at h ⊢
   rw [parseUintM, if_pos ha.1, if_neg (by omega), if_neg (by omega)]
   exact parseM_digits M hM l _ ha.2 h
theorem dig_of (d : Nat) (h : d < 10) : (UInt8.ofNat (48 + d)).toNat = 48 + d := by rw [UInt8.toNat_ofNat']; exact Nat.mod_eq_of_lt (by omega)
theorem dec_facts (u : Nat) : (decDigits u).all QC = true ∧ valF 0 (decDigits u) = u ∧ decDigits u ≠ [] := by
 induction u using Nat.strongRecOn with
 | _ u ih =>
   by_cases h : u < 10
   · rw [decDigits_one h]
     have := dig_of u h
     refine ⟨?_, ?_, by simp⟩
     · simp only [List.all_cons, List.all_nil, Bool.and_true, QC, this]; simp; omega
     · rw [valF_cons, this]; simp only [valF, List.foldl_nil]; omega
   · rw [decDigits.eq_1 u, dif_neg h]
     obtain ⟨h1, h2, h3⟩ := ih (u / 10) (by omega)
     have := dig_of (u % 10) (by omega)
     refine ⟨?_, ?_, by simp⟩
     · simp only [List.all_append, h1, List.all_cons, List.all_nil, Bool.and_true, Bool.true_and, QC, this]; simp; omega
     · rw [valF_append, h2, valF_cons, this]; simp only [valF, List.foldl_nil]; omega
theorem numOf_dec {u : Nat} (h : u ≤ 4294967295) : QH (decDigits u) = some u := by
 obtain ⟨h1, h2, h3⟩ := dec_facts u
 unfold QH parseUintB
 rw [if_neg h3, show (2 : Nat) ^ 32 - 1 = 4294967295 from rfl, parseM_digits 4294967295 (by omega) _ _ h1 (by rw [h2]; exact h), h2]
 simp
theorem numOf_some {l : List UInt8} {u : Nat} (h : QH l = some u) : u ≤ 4294967295 ∧ decDigits u = l := by
 unfold QH at h
 rcases hp : parseUintB 32 l with v | _ | _
 · rw [hp] at h
   simp only at h
   split at h
   · rename_i hd
     obtain rfl := Option.some.inj h
     exact ⟨by have := parseUintB_le hp; simpa using this, hd⟩
   · cases h
 · rw [hp] at h; cases h
 · rw [hp] at h; cases h
theorem numOf_not {l : List UInt8} (h : ∀ u, u ≤ 4294967295 → decDigits u ≠ l) : QH l = none := by
 cases hn : QH l with
 | none => rfl
 | some u => obtain ⟨a, b⟩ := numOf_some hn; exact absurd b (h u a)
theorem numOf_long {l : List UInt8} (h : 10 < l.length) : QH l = none := numOf_not fun u hu e => by
 have := dec_len hu
 rw [e] at this
 omega
theorem numOf_nodig {l : List UInt8} (h : l.all QC = false) : QH l = none := numOf_not fun u hu e => by
 have := (dec_facts u).1
 rw [e, h] at this
 cases this
theorem numOf_big {l : List UInt8} (h : 4294967295 < valF 0 l) : QH l = none := numOf_not fun u hu e => by
 have := (dec_facts u).2.1
 rw [e] at this
 omega
theorem numOf_same {l : List UInt8} (h : valF 0 l ≤ 4294967295) (hd : decDigits (valF 0 l) = l) : QH l = some (valF 0 l) := by
 have := numOf_dec h
 rw [hd] at this
 exact this
theorem numOf_other {l : List UInt8} (hd : decDigits (valF 0 l) ≠ l) : QH l = none := numOf_not fun u hu e => by
 have := (dec_facts u).2.1
 rw [e] at this
 exact hd (by rw [this]; exact e)
def headL (n : Nat) : List UInt8 := 123 :: (decDigits n ++ [125, 13, 10])
def YS (l : List UInt8) : List UInt8 := headL l.length ++ l
def bestL (l : List UInt8) : List UInt8 := if allT l = true then quotedL l else YS l
theorem headL_len {n : Nat} (h : n ≤ 4294967295) : (headL n).length ≤ 14 := by
 have := dec_len h
 unfold headL
 rw [List.length_cons, List.length_append]
 simp only [List.length_cons, List.length_nil]
 omega
theorem headS_list (d : List UInt8) : (ByteArray.mk #[123] ++ ByteArray.mk d.toArray ++ ByteArray.mk #[125, 13, 10]).data.toList = 123 :: (d ++ [125, 13, 10]) := by
 simp
theorem headS_size (d : List UInt8) : (ByteArray.mk #[123] ++ ByteArray.mk d.toArray ++ ByteArray.mk #[125, 13, 10]).size = 1 + d.length + 3 := by
 rw [ByteArray.size_append, ByteArray.size_append]
 rfl
def formN (n : Nat) : List UInt8 := if n = 0 then [42] else decDigits n
theorem formN_len {n : Nat} (h : n ≤ 4294967295) : (formN n).length ≤ 10 ∧ 1 ≤ (formN n).length := by
 unfold formN
 split
 · simp
 · refine ⟨dec_len h, ?_⟩
   rw [decDigits_length]
   unfold nDigits
   split <;> omega
end
section
open Go.Shelf Go.Sort
def formR (r : R) : List UInt8 := if r.1 = r.2 then formN r.1 else formN r.1 ++ 58 :: formN r.2
theorem formR_len {r : R} (h1 : r.1 ≤ 4294967295) (h2 : r.2 ≤ 4294967295) : (formR r).length ≤ 21 := by
 have a := (formN_len h1).1
 have b := (formN_len h2).1
 unfold formR
 split
 · omega
 · simp; omega
def prTail (l : List R) : List UInt8 := l.flatMap fun r => 44 :: formR r
def printL : List R → List UInt8
 | [] => []
 | r :: l => formR r ++ prTail l
theorem printL_snoc (l : List R) (r : R) : printL (l ++ [r]) = printL l ++ ((if 0 < l.length then [44] else []) ++ formR r) := by
 cases l with
 | nil => simp [printL, prTail]
 | cons q l => simp [printL, prTail]
theorem printL_take (l : List R) (k : Nat) (h : k < l.length) : printL (l.take (k + 1)) = printL (l.take k) ++ ((if 0 < k then [44] else []) ++ formR l[k]) := by
 rw [List.take_succ_eq_append_getElem h, printL_snoc, List.length_take, Nat.min_eq_left (by omega)]
theorem printL_len (l : List R) (hb : ∀ r ∈ l, r.1 ≤ 4294967295 ∧ r.2 ≤ 4294967295) : ∀ k, k ≤ l.length → (printL (l.take k)).length ≤ 22 * k
 | 0, _ => by simp [printL]
 | k + 1, h => by
   have ih := printL_len l hb k (by omega)
   have hr := hb l[k] (List.getElem_mem _)
   have hf := formR_len hr.1 hr.2
   rw [printL_take l k (by omega), List.length_append, List.length_append]
   have : (if 0 < k then [(44 : UInt8)] else []).length ≤ 1 := by split <;> simp
   omega
end
section
open Go.Shelf
def numP (l : List UInt8) : Nat × Bool := if l = [42] then (0, true) else ((QH l).getD 0, (QH l).isSome && decide (0 < (QH l).getD 0))
def rngP (l : List UInt8) : R × Bool :=
 if Lib.indexByte l 58 < 0 then (((numP l).1, (numP l).1), (numP l).2)
 else (((numP (l.take (Lib.indexByte l 58).toNat)).1, (numP (l.drop ((Lib.indexByte l 58).toNat + 1))).1), (numP (l.take (Lib.indexByte l 58).toNat)).2 && (numP (l.drop ((Lib.indexByte l 58).toNat + 1))).2)
def YP (l : List UInt8) : List R × Bool :=
 if (YQ 44 l).all (fun p => (rngP p).2) = true then ((YQ 44 l).map (fun p => (rngP p).1), true) else ([], false)
end
section
open Go.Maps
theorem keyF : Keyed Tryz.prog 23 := int_keyed Tryz.underlying23
theorem keyS : Keyed Tryz.prog 9 := string_keyed Tryz.underlying9
theorem zeroS (w : World) : (zeroValue 9).run Tryz.prog w = .ok (.string ⟨#[]⟩) w := by kernel_rfl
theorem zeroF (w : World) : (zeroValue 23).run Tryz.prog w = .ok (.int .u8 0) w := by kernel_rfl
theorem kF (x : Nat) (h : x ≤ 255) : keyOf Tryz.prog 23 (.int .u8 (x : Int)) = some (.int .u8 (x : Int)) :=
 keyOf_int_mk Tryz.underlying23 (by simp [Lit.wf, IntKind.min, IntKind.max, IntKind.signed, IntKind.bits]; omega)
theorem eS (l : List UInt8) (h : l.length ≤ 100) : plainElem (H := Unit) Tryz.prog 9 (.string ⟨l.toArray⟩) = some (strD l, []) :=
 plainElem_string Tryz.underlying9 (s := ⟨l.toArray⟩) (by unfold maxLen; show l.toArray.size ≤ _; simp; omega)
theorem names_any (w : World) :
 Calls Tryz.prog 191 #[] w fun e w' => e = .returned (.map (some w.heap.size)) ∧ w'.ownsMap Tryz.prog 23 (plainElem Tryz.prog 9) w.heap.size 5 nmD ∧ Below w.heap.size w w' := by
 have hmm := @run_makeMap Tryz.prog
 have hown := World.ownsMap_made (H := Unit) w Tryz.prog 23 (plainElem Tryz.prog 9)
 have hb : Below w.heap.size w (w.alloc (.map #[] 0)) := (Below.refl _ _).alloc (Nat.le_refl _) _
 have HO := Hi hown
 clear hown
 go_enter Tryz.func191, Tryz.ntmps191
 go_wp2_with (first
  | (refine YJ (H := Unit) _ rfl _ (.const (.int .u8 1)) _ 205 rfl 23 9 keyF Tryz.underlying205 (plainElem Tryz.prog 9) w.heap.size 0 _ rfl HO.out (by decide) (.int .u8 1) _ (.int .u8 1) rfl rfl (kF 1 (by decide)) _ [] (eS (YX 1) (by decide)) ?_; intro w1 ho1 hg1; have HO1 := Hi ho1; have hb1 := hb.grown hg1 (by simp) (fun j hj => by cases hj; exact Nat.le_refl _); clear ho1 hg1)
  | (refine YJ (H := Unit) _ rfl _ (.const (.int .u8 2)) _ 205 rfl 23 9 keyF Tryz.underlying205 (plainElem Tryz.prog 9) w.heap.size 1 _ rfl HO1.out (by decide) (.int .u8 2) _ (.int .u8 2) rfl rfl (kF 2 (by decide)) _ [] (eS (YX 2) (by decide)) ?_; intro w2 ho2 hg2; have HO2 := Hi ho2; have hb2 := hb1.grown hg2 (by exact hb1.size) (fun j hj => by cases hj; exact Nat.le_refl _); clear ho2 hg2)
  | (refine YJ (H := Unit) _ rfl _ (.const (.int .u8 4)) _ 205 rfl 23 9 keyF Tryz.underlying205 (plainElem Tryz.prog 9) w.heap.size 2 _ rfl HO2.out (by decide) (.int .u8 4) _ (.int .u8 4) rfl rfl (kF 4 (by decide)) _ [] (eS (YX 4) (by decide)) ?_; intro w3 ho3 hg3; have HO3 := Hi ho3; have hb3 := hb2.grown hg3 (by exact hb2.size) (fun j hj => by cases hj; exact Nat.le_refl _); clear ho3 hg3)
  | (refine YJ (H := Unit) _ rfl _ (.const (.int .u8 8)) _ 205 rfl 23 9 keyF Tryz.underlying205 (plainElem Tryz.prog 9) w.heap.size 3 _ rfl HO3.out (by decide) (.int .u8 8) _ (.int .u8 8) rfl rfl (kF 8 (by decide)) _ [] (eS (YX 8) (by decide)) ?_; intro w4 ho4 hg4; have HO4 := Hi ho4; have hb4 := hb3.grown hg4 (by exact hb3.size) (fun j hj => by cases hj; exact Nat.le_refl _); clear ho4 hg4)
  | (refine YJ (H := Unit) _ rfl _ (.const (.int .u8 16)) _ 205 rfl 23 9 keyF Tryz.underlying205 (plainElem Tryz.prog 9) w.heap.size 4 _ rfl HO4.out (by decide) (.int .u8 16) _ (.int .u8 16) rfl rfl (kF 16 (by decide)) _ [] (eS (YX 16) (by decide)) ?_; intro w5 ho5 hg5; have HO5 := Hi ho5; have hb5 := hb4.grown hg5 (by exact hb4.size) (fun j hj => by cases hj; exact Nat.le_refl _); clear ho5 hg5))
 go_ret
 exact ⟨rfl, HO5.out, hb5⟩
theorem str_of {s : ByteArray} {l : List UInt8} (h : s.data.toList = l) : s = ⟨l.toArray⟩ := by subst h; cases s; rfl
theorem ret_str {a b : ByteArray} (h : a = b) : Ending.returned (.string a) = .returned (.string b) := by rw [h]
end
theorem up1_any (n : Nat) (w : World) (h1 : n ≤ 255) :
 Calls Tryz.prog 109 #[.int .u8 n] w fun e w' => e = .returned (.int .u8 (upN n : Nat)) ∧ w = w' := by
 by_cases ha : 97 ≤ n
 · by_cases hb : n ≤ 122
   · have R := Hi (show (upN n : Nat) = n - 32 by unfold upN; rw [if_pos ⟨ha, hb⟩])
     go_enter Tryz.func109, Tryz.ntmps109
     go_wp2
     go_ret
     exact ⟨by rw [R.out]; exact ret_int (by omega), rfl⟩
   · have R := Hi (show (upN n : Nat) = n by unfold upN; rw [if_neg (by omega)])
     go_enter Tryz.func109, Tryz.ntmps109
     go_wp2
     go_ret
     exact ⟨by rw [R.out]; rfl, rfl⟩
 · have R := Hi (show (upN n : Nat) = n by unfold upN; rw [if_neg (by omega)])
   go_enter Tryz.func109, Tryz.ntmps109
   go_wp2
   go_ret
   exact ⟨by rw [R.out]; rfl, rfl⟩
def byteAt (s : ByteArray) (k j : Nat) : UInt8 := if j < k then upB (s.data.toList.getD j 0) else s.data.toList.getD j 0
structure Cells (s : ByteArray) (k b : Nat) (w : World) : Prop where
 out : ∀ j, j < s.size → w.cell? ⟨b, j, none⟩ = some (.int .u8 ((byteAt s k j).toNat : Nat)) ∧ w.frozen? ⟨b, j, none⟩ = false
theorem cells_start (s : ByteArray) (w : World) : Cells s 0 w.heap.size (Lib.bytesWorld w 5 s) := ⟨fun j hj => by
 refine ⟨?_, ?_⟩
 · rw [Lib.bytesWorld_cell w _ s j hj]; rfl
 · simp only [World.frozen?, Lib.bytesWorld_at_new]
   have : j < (Lib.bytesCells w 5 s).size := by simp [Lib.bytesCells]; omega
   simp; omega⟩
theorem upL_get (l : List UInt8) (j : Nat) (h : j < (upL l).length) : (upL l)[j] = upB (l.getD j 0) := by
 have h' : j < l.length := by simpa [upL] using h
 simp [upL, h']
theorem cells_next {s : ByteArray} {k b : Nat} {w : World} (h : Cells s k b w) (hk : k < s.size) : Cells s (k + 1) b (w.setCell ⟨b, k, none⟩ (.int .u8 (upN (byteAt s k k).toNat : Nat))) := ⟨fun j hj => by
 obtain ⟨hc, hf⟩ := h.out j hj
 refine ⟨?_, ?_⟩
 · by_cases e : j = k
   · subst e
     rw [World.cell?_setCell_same _ _ _ hc]
     have h1 : byteAt s (j + 1) j = upB (byteAt s j j) := by unfold byteAt; rw [if_pos (by omega), if_neg (by omega)]
     rw [h1, upB_toNat]
   · rw [World.cell?_setCell_other _ _ _ _ (by simp <;> omega), hc]
     have h1 : byteAt s (k + 1) j = byteAt s k j := by
      unfold byteAt
      by_cases hj2 : j < k
      · rw [if_pos (by omega), if_pos hj2]
      · rw [if_neg (by omega), if_neg hj2]
     rw [h1]
 · rw [World.frozen?_setCell]; exact hf⟩
theorem cells_back {s : ByteArray} {b : Nat} {w : World} (h : Cells s s.size b w) (cap : Nat) :
 (convert 24 9 (.slice (some ⟨b, 0, none⟩) s.size cap)).run Tryz.prog w = .ok (.string ⟨(upL s.data.toList).toArray⟩) w := by
 have hl : (upL s.data.toList).length = s.size := by rw [upL_length]; simp
 have e := run_convert_bytes_back (P := Tryz.prog) w 24 9 5 ⟨b, 0, none⟩ cap (upL s.data.toList) Tryz.underlying24 Tryz.underlying5 Tryz.underlying9 (fun j hj => by
  rw [hl] at hj
  rw [Lib.add_plain, Nat.zero_add, (h.out j hj).1]
  rw [upL_get]
  unfold byteAt
  rw [if_pos hj])
 rw [hl] at e
 exact e
theorem change_any (s : ByteArray) (hs : s.size ≤ 1000000000) (w : World) :
 Calls Tryz.prog 108 #[.string s, .func (Fn.func 109) #[] #[]] w fun e w' => e = .returned (.string ⟨(upL s.data.toList).toArray⟩) ∧ Below w.heap.size w w' := by
 have hcv := fun (w : World) => Lib.run_convert_string_bytes (P := Tryz.prog) w 9 24 5 s Tryz.underlying9 Tryz.underlying24 Tryz.underlying5
 go_enter Tryz.func108, Tryz.ntmps108
 go_wp2_with fail
 clear hcv
 go_loopw [12] (fun i wr => ∃ k : Nat, k ≤ s.size ∧ i = .int .i64 k ∧ Cells s k w.heap.size wr ∧ Below w.heap.size w wr) (fun i _ => s.size - (intOf i).toNat)
 case atStart => exact ⟨0, Nat.zero_le _, rfl, cells_start s w, Joins.below_bytesWorld _ _ _ _ (Nat.le_refl _)⟩
 case round =>
  obtain ⟨k, hk, rfl, HC, hb⟩ := hrel
  by_cases hlt : k < s.size
  · have hc := (HC.out k hlt).1
    have hf := (HC.out k hlt).2
    have HN := cells_next HC hlt
    have U := Hi (up1_any (byteAt s k k).toNat wr (by have := (byteAt s k k).toNat_lt; omega))
    generalize (byteAt s k k).toNat = c at *
    have HNs := hb.setCell (p := ⟨w.heap.size, k, none⟩) (Nat.le_refl _) (.int .u8 (upN c : Nat))
    generalize upN c = d at *
    go_wp2_with (go_at_call 109; refine U.out.mono ?_; rintro e w' ⟨rfl, rfl⟩)
    go_roundw
    case rel => exact ⟨k + 1, by omega, by go_num, HN, HNs⟩
    case measure => simp [intOf]; omega
  · obtain rfl : k = s.size := by omega
    have hcb := cells_back HC
    go_wp2_with fail
    go_ret
    exact ⟨rfl, hb⟩
theorem upper_any (s : ByteArray) (hs : s.size ≤ 1000000000) (w : World) :
 Calls Tryz.prog 69 #[.string s] w fun e w' => e = .returned (.string ⟨(upL s.data.toList).toArray⟩) ∧ Below w.heap.size w w' := by
 have C := Hi (change_any s hs w)
 go_enter Tryz.func69, Tryz.ntmps69
 go_wp2_with (go_at_call 108; refine C.out.mono ?_; rintro e w' ⟨rfl, hb⟩)
 go_ret
 exact ⟨rfl, hb⟩
section
open Go.Maps
theorem kS (l : List UInt8) (h : l.length ≤ 1000000000) : keyOf Tryz.prog 9 (.string ⟨l.toArray⟩) = some (.string l) := by
 have := WideMaps.keyOf_string_mk (P := Tryz.prog) Tryz.underlying9 (s := ⟨l.toArray⟩) (by unfold maxLen; show l.toArray.size ≤ _; simp; omega)
 simpa using this
theorem eF (n : Nat) (h : n ≤ 255) : plainElem (H := Unit) Tryz.prog 23 (.int .u8 (n : Int)) = some (flgD n, []) :=
 plainElem_int Tryz.underlying23 (by simp [Lit.wf, IntKind.min, IntKind.max, IntKind.signed, IntKind.bits]; omega)
theorem flags_any (w : World) :
 Calls Tryz.prog 204 #[] w fun e w' => ∃ b D, e = .returned (.map (some b)) ∧ w'.ownsMap Tryz.prog 9 (plainElem Tryz.prog 23) b 5 D ∧ FlagsD D ∧ w.heap.size ≤ b ∧ Below w.heap.size w w' := by
 have hmm := @run_makeMap Tryz.prog
 have N := Hi (fun w1 => names_any w1)
 go_enter Tryz.func204, Tryz.ntmps204
 go_wp2_with fail
 refine (N.out _).mono ?_
 rintro e w1 ⟨rfl, ho, hb⟩
 have hz : (w.alloc (.map #[] 0)).heap.size = w.heap.size + 1 := by simp
 have HF := Hi (((World.ownsMap_made (H := Unit) w Tryz.prog 9 (plainElem Tryz.prog 23)).kept (row := none) ⟨hb.os, hb.tape, hb.output, hb.size, fun k hk _ => hb.block k hk⟩ (by simp)))
 rw [hz] at ho
 have HO := Hi ho
 have hb1 : Below w.heap.size w w1 := YA ((Below.refl _ _).alloc (Nat.le_refl _) _) hb
 have hs1 : w.heap.size + 1 < w1.heap.size := by have := ho.lt; omega
 clear ho N hb hz
 go_wp2_with (at_range; refine wpList_range_own _ rfl _ 205 rfl 23 9 keyF Tryz.underlying205 _ _ _ _ rfl HO.out ?_; intro w0 hrg0 hg0 hs0)
 go_frame
 have HI := Hi flags_start
 have hk0 := hb1.grown hg0 hb1.size (fun j hj => by cases hj)
 have HF0 := Hi ((HF.out.kept hg0 (by simp)).mono (Nat.zero_le (5 - size nmD)))
 have hr0 : w.heap.size < w1.heap.size := by omega
 clear HF HO hb1
 generalize w1.heap.size = r at *
 clear w1 hg0 hs0
 go_loopw [2] (fun _ wr => ∃ (left : Lit → Bool) (cnt : Nat) (D : DataW Unit), wr.ranges Tryz.prog 23 (plainElem Tryz.prog 9) (w.heap.size + 1) r 5 nmD left cnt ∧ cnt ≤ 5 ∧
  wr.ownsMap Tryz.prog 9 (plainElem Tryz.prog 23) w.heap.size (5 - cnt) D ∧ FlagsInv D left ∧ Below w.heap.size w wr)
  (fun _ wr => wr.rangeLeft (w.heap.size + 1) r)
 case atStart => exact ⟨_, _, _, hrg0, by decide, HF0.out, HI.out, hk0⟩
 case round =>
  obtain ⟨left, cnt, D, hrg, hcs, hown, hI, hb⟩ := hrel
  have HI := Hi hI
  have HW := Hi hown
  clear hI hown hk0 HF0 hrg0
  go_wp2_with (first
   | (at_next; refine wpList_next_ranges_is _ rfl _ rfl 23 9 .u8 keyF Tryz.underlying23 Tryz.underlying9 (w.heap.size + 1) r 5 _ _ _ rfl hrg ?_ ?_)
   | fail)
  · intro hc0 hl0
    go_wp2_with fail
    subst hc0
    have hE := flags_end HI.out hl0
    go_ret
    exact ⟨_, _, rfl, HW.out, hE, Nat.le_refl _, hb⟩
  · intro x c w2 cnt1 hwx hwc hlx hat hrg1 hlt hg1 hs1 hen
    obtain ⟨f, rfl, hf, hc⟩ := nm_found (c := c.data.toList) hat
    have hf16 : f ≤ 16 := by rcases QG.1 hf with rfl | rfl | rfl | rfl | rfl <;> decide
    obtain rfl := str_of hc
    have HI1 := Hi (flags_step hf HI.out)
    have HW1 := Hi (HW.out.kept hg1 (by simp; omega))
    have hb2 := hb.grown hg1 hb.size (fun j hj => by cases hj; omega)
    have hnl : (YX f).length ≤ 100 := by rcases QG.1 hf with rfl | rfl | rfl | rfl | rfl <;> decide
    have hul : (upL (YX f)).length ≤ 100 := by rw [upL_length]; exact hnl
    have U := Hi (fun w1 => upper_any ⟨(YX f).toArray⟩ (by show (YX f).toArray.size ≤ _; simp; omega) w1)
    have HM := Hi (hrg.left_eq)
    have HG := Hi hrg1
    have HH := Hi hat
    clear hat hc hb hrg1 HW HI hwx hwc hlx
    have hw2 := hb2.size
    go_wp2_with fail
    refine (U.out _).mono ?_
    rintro e w3 ⟨rfl, hb3⟩
    have HW2 := Hi (HW1.out.kept (row := none) ⟨hb3.os, hb3.tape, hb3.output, hb3.size, fun k hk _ => hb3.block k hk⟩ (by simp))
    have HG2 := Hi (HG.out.kept (row := none) ⟨hb3.os, hb3.tape, hb3.output, hb3.size, fun k hk _ => hb3.block k hk⟩ (by simp) (by simp))
    have hb4 := hb2.trans (hb3.mono hw2)
    have hw4 := hb4.size
    clear U HW1 HG hb2 hb3 hw2
    go_wp2_with (at_mapUpdate; refine wpList_mapUpdate_own _ rfl _ _ _ 216 rfl 9 23 keyS Tryz.underlying216 _ w.heap.size _ _ rfl HW2.out (by unfold maxLen; omega) _ _ _ rfl rfl (kS (upL (YX f)) (by omega)) _ [] (eF f (by omega)) ?_; intro w5 ho5 hg5; go_frame)
    have hrg5 := HG2.out.kept hg5 (by simp) (by simp; omega)
    have hb5 := hb4.grown hg5 hb4.size (fun j hj => by cases hj; exact Nat.le_refl _)
    go_roundw
    case rel => exact ⟨_, cnt1, _, hrg5, by omega, ho5.mono (by omega), HI1.out, hb5⟩
    case measure => rw [hrg5.left_eq, HM.out]; exact hlt
end
end Go.Proofs.YtpgfnlhfciacoaaGreatDoor
