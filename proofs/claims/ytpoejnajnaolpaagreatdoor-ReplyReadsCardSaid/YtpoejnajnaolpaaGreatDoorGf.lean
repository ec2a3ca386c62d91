/- Two classes of the project: classOf, its closure, Tag, Text; and the reference's. -/
import Derived.Test.YtpoejnajnaolpaaGreatDoorGb
import Derived.Test.YtpoejnajnaolpaaGreatDoorGa
import Derived.Laws.EntriesVeiled
namespace Go.Proofs.YtpoejnajnaolpaaGreatDoor
open Go.RowKit

theorem classOf_any (a b c d : Int) (w : World) :
    Calls Tryz.prog 84 #[.agg #[.int .u64 a, .int .u64 b, .int .u64 c, .int .u64 d]] w fun e w' =>
      e = .returned (.agg #[.func (Fn.func 110) #[] #[.pointer (some ⟨w.heap.size, 0, none⟩)]]) ∧
      (w.alloc (.cells #[.int .u64 a, .int .u64 b, .int .u64 c, .int .u64 d] 105)).alloc (.cells #[.func (Fn.func 110) #[] #[.pointer (some ⟨w.heap.size, 0, none⟩)]] 102) = w' := by
  go_enter Tryz.func84, Tryz.ntmps84
  go_wp2
  exact bodyPost_ret (v := .agg #[.func (Fn.func 110) #[] #[.pointer (some ⟨w.heap.size, 0, none⟩)]]) (by simp [results, Tryz.results84, go_sem]) rfl ⟨rfl, rfl⟩

set_option maxRecDepth 100000 in
theorem has_any (n : Nat) (x : Int) (b : Nat) (w : World) (h1 : n ≤ 255) (hc : w.cell? ⟨b, n / 64, none⟩ = some (.int .u64 x)) :
    Calls Tryz.prog 110 #[.int .u8 n, .pointer (some ⟨b, 0, none⟩)] w fun e w' => e = .returned (.bool (bits BinOp.and IntKind.u64 (x / 2 ^ (n % 64)) 1 == 1)) ∧ w = w' := by
  go_enter Tryz.func110, Tryz.ntmps110
  go_wp2
  go_ret
  exact ⟨rfl, rfl⟩

/-- The four words of a class lie in the first of its two blocks. -/
theorem word_at (a b c d : Int) (v : Value) (t u : TypeId) (w : World) (n : Nat) (h1 : n ≤ 255) :
    ((w.alloc (.cells #[.int .u64 a, .int .u64 b, .int .u64 c, .int .u64 d] t)).alloc (.cells #[v] u)).cell? ⟨w.heap.size, n / 64, none⟩ = some (.int .u64 (if n / 64 = 0 then a else if n / 64 = 1 then b else if n / 64 = 2 then c else d)) := by
  have hn : n / 64 < 4 := by omega
  generalize n / 64 = k at hn
  rw [World.cell?_alloc_old _ _ _ (by simp)]
  rw [World.cell?_alloc_new]
  match k, hn with
  | 0, _ => rfl
  | 1, _ => rfl
  | 2, _ => rfl
  | 3, _ => rfl

theorem field_has (b : Nat) (w : World) : (Instr.field 102 (.agg #[.func (Fn.func 110) #[] #[.pointer (some ⟨b, 0, none⟩)]]) 0).run Tryz.prog w = .ok (.func (Fn.func 110) #[] #[.pointer (some ⟨b, 0, none⟩)]) w := by kernel_rfl

theorem below_two (w : World) (o1 o2 : Obj) : Below w.heap.size w ((w.alloc o1).alloc o2) := ((Below.refl _ _).alloc (Nat.le_refl _) _).alloc (by simp) _

set_option maxRecDepth 100000 in
theorem tag_any (n : Nat) (w : World) (h1 : n ≤ 255) :
    Calls Tryz.prog 60 #[.int .u8 n] w fun e w' => e = .returned (.bool (tagN n)) ∧ Below w.heap.size w w' := by
  have H0 := has_any n _ _ _ h1 (word_at 18446727417826377728 8646911284282916863 0 0 (.func (Fn.func 110) #[] #[.pointer (some ⟨w.heap.size, 0, none⟩)]) 105 102 w n h1)
  have hb : bitAt 18446727417826377728 8646911284282916863 0 0 n = tagN n := tag_bit ⟨n, by omega⟩
  unfold bitAt at hb
  rw [hb] at H0
  have H := Lib.hid H0
  clear H0 hb
  have hf := fun (b : Nat) W => field_has b W
  go_enter Tryz.func60, Tryz.ntmps60
  go_wp2_with (first | (go_at_call 84; refine (classOf_any _ _ _ _ _).mono ?_; rintro e w' ⟨rfl, rfl⟩) | (go_at_call 110; refine H.out.mono ?_; rintro e w' ⟨rfl, rfl⟩))
  go_ret
  exact ⟨rfl, below_two _ _ _⟩

set_option maxRecDepth 100000 in
theorem text_any (n : Nat) (w : World) (h1 : n ≤ 255) :
    Calls Tryz.prog 59 #[.int .u8 n] w fun e w' => e = .returned (.bool (textN n)) ∧ Below w.heap.size w w' := by
  have H0 := has_any n _ _ _ h1 (word_at 18446744073709542398 18446744073709551615 0 0 (.func (Fn.func 110) #[] #[.pointer (some ⟨w.heap.size, 0, none⟩)]) 105 102 w n h1)
  have hb : bitAt 18446744073709542398 18446744073709551615 0 0 n = textN n := text_bit ⟨n, by omega⟩
  unfold bitAt at hb
  rw [hb] at H0
  have H := Lib.hid H0
  clear H0 hb
  have hf := fun (b : Nat) W => field_has b W
  go_enter Tryz.func59, Tryz.ntmps59
  go_wp2_with (first | (go_at_call 84; refine (classOf_any _ _ _ _ _).mono ?_; rintro e w' ⟨rfl, rfl⟩) | (go_at_call 110; refine H.out.mono ?_; rintro e w' ⟨rfl, rfl⟩))
  go_ret
  exact ⟨rfl, below_two _ _ _⟩

set_option maxRecDepth 100000 in
theorem refAtom_any (n : Nat) (w : World) (h1 : n ≤ 255) :
    Calls Tryz.prog 67 #[.int .u8 n] w fun e w' => e = .returned (.bool (atomN n)) ∧ w = w' := by
  by_cases hs : n = 40 ∨ n = 41 ∨ n = 123 ∨ n = 37 ∨ n = 42 ∨ n = 34 ∨ n = 92 ∨ n = 93
  · have hr : false = atomN n := by unfold atomN; simp; omega
    have R := Lib.hid hr
    clear hr
    go_enter Tryz.func67, Tryz.ntmps67
    go_wp2
    all_goals first | (go_ret; exact ⟨ret_bool R.out, rfl⟩) | (exfalso; omega)
  · have h2 : ¬ n = 40 := by omega
    have h3 : ¬ n = 41 := by omega
    have h4 : ¬ n = 123 := by omega
    have h5 : ¬ n = 37 := by omega
    have h6 : ¬ n = 42 := by omega
    have h7 : ¬ n = 34 := by omega
    have h8 : ¬ n = 92 := by omega
    have h9 : ¬ n = 93 := by omega
    clear hs
    by_cases ha : 32 < n
    · have R := Lib.hid (show decide ((n : Int) < 127) = atomN n by unfold atomN; rw [decide_eq_decide]; omega)
      go_enter Tryz.func67, Tryz.ntmps67
      go_wp2
      go_ret
      exact ⟨ret_bool R.out, rfl⟩
    · have R := Lib.hid (show false = atomN n by unfold atomN; simp; omega)
      go_enter Tryz.func67, Tryz.ntmps67
      go_wp2
      go_ret
      exact ⟨ret_bool R.out, rfl⟩

theorem refAtom_is (n : Nat) (w : World) (h1 : n ≤ 255) (b : Bool) (hb : atomN n = b) :
    Calls Tryz.prog 67 #[.int .u8 n] w fun e w' => e = .returned (.bool b) ∧ w = w' := by subst hb; exact refAtom_any n w h1

set_option maxRecDepth 100000 in
theorem refTag_any (n : Nat) (w : World) (h1 : n ≤ 255) :
    Calls Tryz.prog 49 #[.int .u8 n] w fun e w' => e = .returned (.bool (tagN n)) ∧ w = w' := by
  by_cases h93 : n = 93
  · subst h93
    have A := Lib.hid (refAtom_is 93 w (by omega) false (by decide))
    go_enter Tryz.func49, Tryz.ntmps49
    go_wp2_with (go_at_call 67; refine A.out.mono ?_; rintro e w' ⟨rfl, rfl⟩)
    go_ret
    exact ⟨rfl, rfl⟩
  · by_cases h43 : n = 43
    · subst h43
      have A := Lib.hid (refAtom_is 43 w (by omega) true (by decide))
      go_enter Tryz.func49, Tryz.ntmps49
      go_wp2_with (go_at_call 67; refine A.out.mono ?_; rintro e w' ⟨rfl, rfl⟩)
      go_ret
      exact ⟨rfl, rfl⟩
    · cases ha : atomN n with
      | true =>
        have A := Lib.hid (refAtom_is n w h1 true ha)
        have R := Lib.hid (show true = tagN n by unfold atomN at ha; unfold tagN; simp at ha; simp; omega)
        clear ha
        go_enter Tryz.func49, Tryz.ntmps49
        go_wp2_with (go_at_call 67; refine A.out.mono ?_; rintro e w' ⟨rfl, rfl⟩)
        go_ret
        exact ⟨ret_bool R.out, rfl⟩
      | false =>
        have A := Lib.hid (refAtom_is n w h1 false ha)
        have R := Lib.hid (show false = tagN n by unfold atomN at ha; unfold tagN; simp at ha; simp; omega)
        clear ha
        go_enter Tryz.func49, Tryz.ntmps49
        go_wp2_with (go_at_call 67; refine A.out.mono ?_; rintro e w' ⟨rfl, rfl⟩)
        go_ret
        exact ⟨ret_bool (by rw [← R.out]; simp; omega), rfl⟩

set_option maxRecDepth 100000 in
theorem refText_any (n : Nat) (w : World) (h1 : n ≤ 255) :
    Calls Tryz.prog 48 #[.int .u8 n] w fun e w' => e = .returned (.bool (textN n)) ∧ w = w' := by
  by_cases h0 : 0 < n
  · by_cases h128 : n < 128
    · by_cases h10 : n = 10
      · subst h10
        go_enter Tryz.func48, Tryz.ntmps48
        go_wp2
        go_ret
        exact ⟨rfl, rfl⟩
      · by_cases h13 : n = 13
        · subst h13
          go_enter Tryz.func48, Tryz.ntmps48
          go_wp2
          go_ret
          exact ⟨rfl, rfl⟩
        · have R := Lib.hid (show true = textN n by unfold textN; simp; omega)
          go_enter Tryz.func48, Tryz.ntmps48
          go_wp2
          go_ret
          exact ⟨ret_bool (by rw [← R.out]; simp; omega), rfl⟩
    · have R := Lib.hid (show false = textN n by unfold textN; simp; omega)
      go_enter Tryz.func48, Tryz.ntmps48
      go_wp2
      go_ret
      exact ⟨ret_bool R.out, rfl⟩
  · obtain rfl : n = 0 := by omega
    go_enter Tryz.func48, Tryz.ntmps48
    go_wp2
    go_ret
    exact ⟨rfl, rfl⟩
end Go.Proofs.YtpoejnajnaolpaaGreatDoor

namespace Go.Proofs.YtpoejnajnaolpaaGreatDoor
open Go.RowKit

/-- Not empty, and each byte in the class. -/
def allL (g : Nat → Bool) (l : List UInt8) : Bool := !l.isEmpty && l.all fun c => g c.toNat

theorem all_false (g : Nat → Bool) (s : ByteArray) (k : Nat) (h : k < s.size) (hg : g s[k].toNat = false) : allL g s.data.toList = false := by
  unfold allL
  have : s.data.toList.all (fun c => g c.toNat) = false := by
    rw [List.all_eq_false]
    exact ⟨s[k], by simp [ByteArray.getElem_eq_getElem_data], by simp [hg]⟩
  rw [this, Bool.and_false]
theorem all_done (g : Nat → Bool) (s : ByteArray) (h : (s.data.toList.take s.size).all (fun c => g c.toNat) = true) : allL g s.data.toList = !s.toList.isEmpty := by
  rw [take_all] at h
  unfold allL
  rw [h, Bool.and_true, btl]

set_option maxRecDepth 100000 in
set_option maxHeartbeats 400000 in
theorem all_any (F : FuncId) (g : Nat → Bool) (hF : ∀ n w, n ≤ 255 → Calls Tryz.prog F #[.int .u8 (n : Nat)] w fun e w' => e = .returned (.bool (g n)) ∧ Below w.heap.size w w')
    (hE : ∀ args w, (callFunc F args).run Tryz.prog w = .ok (.enter F args) w) (s : ByteArray) (hs : s.size ≤ 1000000000) (w : World) :
    Calls Tryz.prog 97 #[.string s, .func (Fn.func F) #[] #[]] w fun e w' => e = .returned (.bool (allL g s.data.toList)) ∧ Below w.heap.size w w' := by
  have HF := Lib.hid hF
  clear hF
  go_enter Tryz.func97, Tryz.ntmps97
  go_wp2_with fail
  go_loopw [8] (fun i wr => ∃ k : Nat, k ≤ s.size ∧ i = .int .i64 k ∧ (s.data.toList.take k).all (fun c => g c.toNat) = true ∧ Below w.heap.size w wr) (fun i _ => s.size - (intOf i).toNat)
  case atStart => exact ⟨0, Nat.zero_le _, rfl, rfl, Below.refl _ _⟩
  case round =>
    obtain ⟨k, hk, rfl, ha, hb⟩ := hrel
    have HA := Lib.hid ha
    clear ha
    by_cases hlt : k < s.size
    · have hn : s[k].toNat ≤ 255 := by have := s[k].toNat_lt; omega
      have C := Lib.hid (HF.out s[k].toNat wr hn)
      cases hg : g s[k].toNat with
      | true =>
        have HG := Lib.hid hg
        rw [hg] at C
        clear hg
        go_wp2_with fail
        refine C.out.mono ?_
        rintro e w' ⟨rfl, hb2⟩
        go_wp2
        go_roundw
        case rel => exact ⟨k + 1, by omega, by go_num, by rw [take_snocB s k hlt, List.all_append, HA.out, List.all_cons, HG.out]; rfl, below_step hb hb2 hb.size⟩
        case measure => simp [intOf]; omega
      | false =>
        have HG := Lib.hid (all_false g s k hlt hg)
        rw [hg] at C
        clear hg
        go_wp2_with fail
        refine C.out.mono ?_
        rintro e w' ⟨rfl, hb2⟩
        go_wp2
        go_ret
        exact ⟨ret_bool HG.out.symm, below_step hb hb2 hb.size⟩
    · obtain rfl : k = s.size := by omega
      have HG := Lib.hid (all_done g s HA.out)
      go_wp2_with fail
      go_ret
      exact ⟨ret_bool HG.out.symm, hb⟩

set_option maxRecDepth 100000 in
set_option maxHeartbeats 400000 in
theorem isTag_any (s : ByteArray) (hs : s.size ≤ 1000000000) (w : World) :
    Calls Tryz.prog 32 #[.string s] w fun e w' => e = .returned (.bool (allL tagN s.data.toList)) ∧ w = w' := by
  go_enter Tryz.func32, Tryz.ntmps32
  go_wp2_with fail
  go_loop [3] (fun i => ∃ k : Nat, k ≤ s.size ∧ i = .int .i64 k ∧ (s.data.toList.take k).all (fun c => tagN c.toNat) = true) (fun i => s.size - (intOf i).toNat)
  case atStart => exact ⟨0, Nat.zero_le _, rfl, rfl⟩
  case round =>
    obtain ⟨k, hk, rfl, ha⟩ := hrel
    have HA := Lib.hid ha
    clear ha
    by_cases hlt : k < s.size
    · have hn : s[k].toNat ≤ 255 := by have := s[k].toNat_lt; omega
      have C := Lib.hid (refTag_any s[k].toNat w hn)
      cases hg : tagN s[k].toNat with
      | true =>
        have HG := Lib.hid hg
        rw [hg] at C
        clear hg
        go_wp2_with fail
        refine C.out.mono ?_
        rintro e w' ⟨rfl, rfl⟩
        go_wp2
        go_round
        case rel => exact ⟨k + 1, by omega, by go_num, by rw [take_snocB s k hlt, List.all_append, HA.out, List.all_cons, HG.out]; rfl⟩
        case measure => simp [intOf]; omega
      | false =>
        have HG := Lib.hid (all_false tagN s k hlt hg)
        rw [hg] at C
        clear hg
        go_wp2_with fail
        refine C.out.mono ?_
        rintro e w' ⟨rfl, rfl⟩
        go_wp2
        go_ret
        exact ⟨ret_bool HG.out.symm, rfl⟩
    · obtain rfl : k = s.size := by omega
      have HG := Lib.hid (all_done tagN s HA.out)
      go_wp2_with fail
      go_ret
      exact ⟨ret_bool HG.out.symm, rfl⟩

set_option maxRecDepth 100000 in
set_option maxHeartbeats 400000 in
theorem isText_any (s : ByteArray) (hs : s.size ≤ 1000000000) (w : World) :
    Calls Tryz.prog 31 #[.string s] w fun e w' => e = .returned (.bool (allL textN s.data.toList)) ∧ w = w' := by
  go_enter Tryz.func31, Tryz.ntmps31
  go_wp2_with fail
  go_loop [3] (fun i => ∃ k : Nat, k ≤ s.size ∧ i = .int .i64 k ∧ (s.data.toList.take k).all (fun c => textN c.toNat) = true) (fun i => s.size - (intOf i).toNat)
  case atStart => exact ⟨0, Nat.zero_le _, rfl, rfl⟩
  case round =>
    obtain ⟨k, hk, rfl, ha⟩ := hrel
    have HA := Lib.hid ha
    clear ha
    by_cases hlt : k < s.size
    · have hn : s[k].toNat ≤ 255 := by have := s[k].toNat_lt; omega
      have C := Lib.hid (refText_any s[k].toNat w hn)
      cases hg : textN s[k].toNat with
      | true =>
        have HG := Lib.hid hg
        rw [hg] at C
        clear hg
        go_wp2_with fail
        refine C.out.mono ?_
        rintro e w' ⟨rfl, rfl⟩
        go_wp2
        go_round
        case rel => exact ⟨k + 1, by omega, by go_num, by rw [take_snocB s k hlt, List.all_append, HA.out, List.all_cons, HG.out]; rfl⟩
        case measure => simp [intOf]; omega
      | false =>
        have HG := Lib.hid (all_false textN s k hlt hg)
        rw [hg] at C
        clear hg
        go_wp2_with fail
        refine C.out.mono ?_
        rintro e w' ⟨rfl, rfl⟩
        go_wp2
        go_ret
        exact ⟨ret_bool HG.out.symm, rfl⟩
    · obtain rfl : k = s.size := by omega
      have HG := Lib.hid (all_done textN s HA.out)
      go_wp2_with fail
      go_ret
      exact ⟨ret_bool HG.out.symm, rfl⟩
end Go.Proofs.YtpoejnajnaolpaaGreatDoor

namespace Go.Proofs.YtpoejnajnaolpaaGreatDoor
open Go.RowKit

theorem unb_go (cs : Array Value) (w : World) : Calls Tryz.prog 87 #[.agg cs] w fun e w' => e = .returned (.bool true) ∧ Below w.heap.size w w' := by
  go_enter Tryz.func87, Tryz.ntmps87
  go_wp2_with fail
  go_ret
  exact ⟨rfl, below_al _ _⟩
set_option maxRecDepth 100000 in
set_option maxHeartbeats 1000000 in
theorem ffits_go (kind n status items flags uid size : Int) (tag text : ByteArray) (A : Option Addr) (m k : Nat) (hm : m ≤ 3000) (q0 q1 q2 : Bool) (e0 : (items != 0) = q0) (e1 : (bits BinOp.andNot IntKind.i64 items 23 == 0) = q1) (e2 : (bits BinOp.andNot IntKind.u8 flags 31 == 0) = q2) (w : World) :
    Calls Tryz.prog 70 #[.agg #[.int .i64 kind, .int .u32 n, .string tag, .int .i64 status, .string text, .int .i64 items, .int .u8 flags, .int .u32 uid, .int .u32 size, .slice A m k]] w fun e w' => e = .returned (.bool (q0 && q1 && q2)) ∧ Below w.heap.size w w' := by
  cases q0 <;> cases q1 <;> cases q2
  all_goals
    go_enter Tryz.func70, Tryz.ntmps70
    go_wp2_with fail
    go_ret
    exact ⟨by first | rfl | (simp; omega), below_al _ _⟩
set_option maxRecDepth 100000 in
set_option maxHeartbeats 1000000 in
theorem tfits_go (kind n status items flags uid size : Int) (tag text : ByteArray) (A : Option Addr) (m k : Nat) (ht : text.size ≤ 3000) (w : World) :
    Calls Tryz.prog 96 #[.agg #[.int .i64 kind, .int .u32 n, .string tag, .int .i64 status, .string text, .int .i64 items, .int .u8 flags, .int .u32 uid, .int .u32 size, .slice A m k]] w fun e w' => e = .returned (.bool (txtL text.data.toList)) ∧ Below w.heap.size w w' := by
  have AL := Lib.hid (fun W => all_any 59 textN (fun n W h => text_any n W h) (fun _ _ => by go_simp) text (by omega) W)
  have HR := Lib.hid (show allL textN text.data.toList = txtL text.data.toList from rfl)
  rw [HR.out] at AL
  generalize txtL text.data.toList = q at *
  clear HR
  go_enter Tryz.func96, Tryz.ntmps96
  go_wp2_with fail
  refine (AL.out _).mono ?_
  rintro e w1 ⟨rfl, hb⟩
  go_wp2_with fail
  go_ret
  exact ⟨rfl, below_next (below_al _ _) hb⟩
set_option maxRecDepth 100000 in
set_option maxHeartbeats 2000000 in
theorem gfits_go (kind n status items flags uid size : Int) (tag text : ByteArray) (A : Option Addr) (m k : Nat) (ht : text.size ≤ 3000) (hg : tag.size ≤ 3000) (w : World) :
    Calls Tryz.prog 75 #[.agg #[.int .i64 kind, .int .u32 n, .string tag, .int .i64 status, .string text, .int .i64 items, .int .u8 flags, .int .u32 uid, .int .u32 size, .slice A m k]] w fun e w' => e = .returned (.bool (tgL tag.data.toList && (txtL text.data.toList && decide (0 ≤ status ∧ status ≤ 2)))) ∧ Below w.heap.size w w' := by
  have AL := fun W => all_any 59 textN (fun n W h => text_any n W h) (fun _ _ => by go_simp) text (by omega) W
  have AG := fun W => all_any 60 tagN (fun n W h => tag_any n W h) (fun _ _ => by go_simp) tag (by omega) W
  have HR := Lib.hid (show allL textN text.data.toList = txtL text.data.toList from rfl)
  have HR2 := Lib.hid (show allL tagN tag.data.toList = tgL tag.data.toList from rfl)
  rw [HR.out] at AL
  rw [HR2.out] at AG
  generalize txtL text.data.toList = q at *
  generalize tgL tag.data.toList = p at *
  have AL := Lib.hid AL
  have AG := Lib.hid AG
  have BX := Lib.hid (heap_alloc_new w (.cells #[.int .i64 kind, .int .u32 n, .string tag, .int .i64 status, .string text, .int .i64 items, .int .u8 flags, .int .u32 uid, .int .u32 size, .slice A m k] 27))
  have B0 := Lib.hid (below_al w (.cells #[.int .i64 kind, .int .u32 n, .string tag, .int .i64 status, .string text, .int .i64 items, .int .u8 flags, .int .u32 uid, .int .u32 size, .slice A m k] 27))
  clear HR HR2
  cases p with
  | false =>
    go_enter Tryz.func75, Tryz.ntmps75
    go_wp2_with fail
    refine (AG.out _).mono ?_
    rintro e w1 ⟨rfl, hb⟩
    have HB := Lib.hid (below_next B0.out hb)
    clear hb
    go_wp2_with fail
    go_ret
    exact ⟨rfl, HB.out⟩
  | true =>
    by_cases h0 : 0 ≤ status
    · by_cases h2 : status ≤ 2
      · have R := Lib.hid (show (true && (q && decide (0 ≤ status ∧ status ≤ 2))) = q by rw [decide_eq_true ⟨h0, h2⟩]; simp)
        go_enter Tryz.func75, Tryz.ntmps75
        go_wp2_with fail
        refine (AG.out _).mono ?_
        rintro e w1 ⟨rfl, hb⟩
        have HB := Lib.hid (below_next B0.out hb)
        obtain ⟨-, -, -, c3, c4, -, -, -, -, -⟩ := cells10 ((hb.block _ (by simp)).trans BX.out)
        clear hb
        go_wp2_with fail
        refine (AL.out _).mono ?_
        rintro e w2 ⟨rfl, hb⟩
        have HB2 := Lib.hid (below_next HB.out hb)
        clear hb c3 c4
        go_wp2_with fail
        go_ret
        exact ⟨ret_bool R.out.symm, HB2.out⟩
      · have R := Lib.hid (show (true && (q && decide (0 ≤ status ∧ status ≤ 2))) = false by rw [decide_eq_false (by omega)]; simp)
        have d2 : decide (status ≤ 2) = false := by simpa using h2
        go_enter Tryz.func75, Tryz.ntmps75
        go_wp2_with fail
        refine (AG.out _).mono ?_
        rintro e w1 ⟨rfl, hb⟩
        have HB := Lib.hid (below_next B0.out hb)
        obtain ⟨-, -, -, c3, c4, -, -, -, -, -⟩ := cells10 ((hb.block _ (by simp)).trans BX.out)
        clear hb
        go_wp2_with fail
        go_ret
        exact ⟨ret_bool R.out.symm, HB.out⟩
    · have R := Lib.hid (show (true && (q && decide (0 ≤ status ∧ status ≤ 2))) = false by rw [decide_eq_false (by omega)]; simp)
      have d2 : decide (0 ≤ status) = false := by simpa using h0
      go_enter Tryz.func75, Tryz.ntmps75
      go_wp2_with fail
      refine (AG.out _).mono ?_
      rintro e w1 ⟨rfl, hb⟩
      have HB := Lib.hid (below_next B0.out hb)
      obtain ⟨-, -, -, c3, c4, -, -, -, -, -⟩ := cells10 ((hb.block _ (by simp)).trans BX.out)
      clear hb
      go_wp2_with fail
      go_ret
      exact ⟨ret_bool R.out.symm, HB.out⟩

/-- The function 'fits' of a kind. -/
def fitF (k : Int) : FuncId := if k = 1 ∨ k = 2 ∨ k = 3 then 87 else if k = 4 then 70 else if k = 5 then 87 else if k = 9 then 75 else 96
theorem fit_any9 (r : RI) (hk : 1 ≤ r.kind ∧ r.kind ≤ 10) (hr : RIok r) (hs : RIsm r) (A : Option Addr) (k : Nat) (w : World) :
    Calls Tryz.prog (fitF r.kind) #[rsV r A k] w fun e w' => e = .returned (.bool (rsFit r)) ∧ Below w.heap.size w w' := by
  have hx : (ByteArray.mk r.text.toArray).size ≤ 3000 := by have := hs.text; simpa [ByteArray.size] using this
  have hg : (ByteArray.mk r.tag.toArray).size ≤ 3000 := by have := hs.tag; simpa [ByteArray.size] using this
  unfold fitF rsFit
  split
  · exact unb_go _ w
  split
  · refine (ffits_go r.kind r.n r.status r.items r.flags r.uid r.size ⟨r.tag.toArray⟩ ⟨r.text.toArray⟩ A r.body.length k hs.body _ _ _ rfl rfl rfl w).mono fun e w' ⟨he, hb⟩ => ⟨?_, hb⟩
    have h1 := items_fit hr.items.1 hr.items.2
    have h2 := flags_fit ⟨r.flags, by have := hr.flags; omega⟩
    have h3 : decide (r.body.length ≤ 65536) = true := decide_eq_true (by have := hs.body; omega)
    rw [he]
    refine ret_bool ?_
    rw [h1, h3, Bool.and_true]
    exact congrArg (fun b => decide (1 ≤ r.items ∧ r.items ≤ 31 ∧ rsBit r.items 8 = false) && b) h2
  split
  · exact unb_go _ w
  split
  · exact gfits_go r.kind r.n r.status r.items r.flags r.uid r.size ⟨r.tag.toArray⟩ ⟨r.text.toArray⟩ A r.body.length k hx hg w
  · rw [if_pos (by omega)]
    exact tfits_go r.kind r.n r.status r.items r.flags r.uid r.size ⟨r.tag.toArray⟩ ⟨r.text.toArray⟩ A r.body.length k hx w
end Go.Proofs.YtpoejnajnaolpaaGreatDoor
