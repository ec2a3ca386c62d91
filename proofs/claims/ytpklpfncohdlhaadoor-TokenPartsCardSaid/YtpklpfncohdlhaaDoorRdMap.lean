/- token: the map of the reader's methods; what a look-up in it gives. -/
import Derived.Test.YtpklpfncohdlhaaDoorRd
import Derived.Test.YtpklpfncohdlhaaDoorMapS
import Derived.Maps.OwnSet
namespace Go.Proofs.YtpklpfncohdlhaaDoor
open Go.RowKit Go.Maps

def ptrBlk (a : Array Value) : Option Nat :=
  match a.toList with
  | [.pointer (some ⟨b, 0, none⟩)] => some b
  | _ => none
theorem ptrBlk_eq {a : Array Value} {b : Nat} (h : ptrBlk a = some b) : a = #[.pointer (some ⟨b, 0, none⟩)] := by
  unfold ptrBlk at h
  split at h
  · rename_i b' he
    obtain rfl := Option.some.inj h
    apply Array.toList_inj.1
    exact he
  · cases h
/-- How a method bound to the reader in block bs reads: by its number. -/
def fnElemP (bs : Nat) : Value → Option (DataW Unit × List MemPlace)
  | .nilFunc => some (.nil, [])
  | .func (.func n) a b => if ptrBlk a = some bs ∧ b.size = 0 then some (.lit (.int .i64 n), []) else none
  | _ => none
theorem fnElemP_nil {bs : Nat} {v : Value} {ps : List MemPlace} (h : fnElemP bs v = some (.nil, ps)) : v = .nilFunc := by
  unfold fnElemP at h
  split at h
  · rfl
  · split at h <;> simp at h
  · cases h
theorem fnElemP_fn {bs : Nat} {v : Value} {n : Nat} {ps : List MemPlace} (h : fnElemP bs v = some (.lit (.int .i64 n), ps)) : v = .func (.func n) #[.pointer (some ⟨bs, 0, none⟩)] #[] := by
  unfold fnElemP at h
  split at h
  · simp at h
  · rename_i m a b
    split at h
    · rename_i hs
      simp at h
      obtain ⟨h, _⟩ := h
      obtain rfl := ptrBlk_eq hs.1
      have hb : b = #[] := by apply Array.eq_empty_of_size_eq_zero hs.2
      subst hb
      first
        | (subst h; rfl)
        | (have hm : m = n := Int.ofNat.inj h; subst hm; rfl)
    · cases h
  · cases h
def rfD (n : Nat) : DataW Unit := .lit (.int .i64 (n : Int))
def rdD : DataW Unit :=
  ((((((DataW.map []).put (.int .i64 1) (rfD 30)).put (.int .i64 2) (rfD 30)).put (.int .i64 3) (rfD 30)).put (.int .i64 4) (rfD 31)).put (.int .i64 5) (rfD 32)).put (.int .i64 6) (rfD 33)
def rdF (k : Nat) : FuncId := if k ≤ 3 then 30 else if k = 4 then 31 else if k = 5 then 32 else 33
theorem keyI6 : Keyed Tryd.prog 3 := int_keyed Tryd.underlying3
theorem kI6 (x : Int) (h1 : -9223372036854775808 ≤ x) (h2 : x ≤ 9223372036854775807) : keyOf Tryd.prog 3 (.int .i64 x) = some (.int .i64 x) :=
  keyOf_int_mk Tryd.underlying3 (by simp [Lit.wf, IntKind.min, IntKind.max, IntKind.signed, IntKind.bits]; omega)
theorem zeroFn6 (w : World) : (zeroValue 48).run Tryd.prog w = .ok .nilFunc w := by kernel_rfl

theorem look_rd {w : World} {m bs : Nat} (hown : w.ownsMap Tryd.prog 3 (fnElemP bs) m 6 rdD) (k : Nat) (h1 : 1 ≤ k) (h6 : k ≤ 6) :
    (Instr.lookup 45 (.map (some m)) (.int .i64 (k : Int)) true).run Tryd.prog w = .ok (.tuple #[.func (.func (rdF k)) #[.pointer (some ⟨bs, 0, none⟩)] #[], .bool true]) w := by
  obtain ⟨v, ps, hrun, hv⟩ := hown.look_ok keyI6 Tryd.underlying45 (zeroFn6 w) (zd := .nil) (zp := []) rfl (kI6 k (by omega) (by omega))
  have hD : rdD.atKey (.int .i64 (k : Int)) .nil = rfD (rdF k) ∧ Maps.has rdD (.int .i64 (k : Int)) = true := by
    have hc : k = 1 ∨ k = 2 ∨ k = 3 ∨ k = 4 ∨ k = 5 ∨ k = 6 := by omega
    rcases hc with rfl | rfl | rfl | rfl | rfl | rfl <;> exact ⟨by kernel_rfl, by kernel_rfl⟩
  rw [hD.1] at hv
  obtain rfl := fnElemP_fn hv
  rw [hrun, hD.2]
theorem look_rd0 {w : World} {m bs : Nat} (hown : w.ownsMap Tryd.prog 3 (fnElemP bs) m 6 rdD) :
    (Instr.lookup 45 (.map (some m)) (.int .i64 0) true).run Tryd.prog w = .ok (.tuple #[.nilFunc, .bool false]) w := by
  obtain ⟨v, ps, hrun, hv⟩ := hown.look_ok keyI6 Tryd.underlying45 (zeroFn6 w) (zd := .nil) (zp := []) rfl (kI6 0 (by omega) (by omega))
  have hD : rdD.atKey (.int .i64 0) .nil = .nil ∧ Maps.has rdD (.int .i64 0) = false := ⟨by kernel_rfl, by kernel_rfl⟩
  rw [hD.1] at hv
  obtain rfl := fnElemP_nil hv
  rw [hrun, hD.2]

set_option maxRecDepth 100000 in
set_option maxHeartbeats 1000000 in
theorem readers_any (bs : Nat) (w : World) :
    Calls Tryd.prog 19 #[.pointer (some ⟨bs, 0, none⟩)] w fun e w' => e = .returned (.map (some w.heap.size)) ∧ w'.ownsMap Tryd.prog 3 (fnElemP bs) w.heap.size 6 rdD ∧ Below w.heap.size w w' := by
  have hmm := @run_makeMap Tryd.prog
  have hown := World.ownsMap_made (H := Unit) w Tryd.prog 3 (fnElemP bs)
  have hb : Below w.heap.size w (w.alloc (.map #[] 0)) := (Below.refl _ _).alloc (Nat.le_refl _) _
  have HO := Lib.hid hown
  have hR : ∀ n : Nat, fnElemP bs (.func (.func n) #[.pointer (some ⟨bs, 0, none⟩)] #[]) = some (rfD n, []) := fun n => by
    show (if ptrBlk #[.pointer (some ⟨bs, 0, none⟩)] = some bs ∧ _ then _ else _) = _
    rw [if_pos ⟨rfl, rfl⟩]
    rfl
  have HR := Lib.hid hR
  clear hown hR
  go_enter Tryd.func19, Tryd.ntmps19
  go_wp2_with (first
    | (refine wpList_insert_own (H := Unit) _ rfl _ (.const (.int .i64 1)) _ 45 rfl 3 48 keyI6 Tryd.underlying45 (fnElemP bs) w.heap.size 0 _ rfl HO.out (by decide) (.int .i64 1) _ (.int .i64 1) rfl rfl (kI6 1 (by decide) (by decide)) (rfD 30) [] (HR.out _) ?_; intro w1 ho1 hg1; have HO1 := Lib.hid ho1; have hb1 := hb.grown hg1 (by simp) (fun j hj => by cases hj; exact Nat.le_refl _); clear ho1 hg1)
    | (refine wpList_insert_own (H := Unit) _ rfl _ (.const (.int .i64 2)) _ 45 rfl 3 48 keyI6 Tryd.underlying45 (fnElemP bs) w.heap.size 1 _ rfl HO1.out (by decide) (.int .i64 2) _ (.int .i64 2) rfl rfl (kI6 2 (by decide) (by decide)) (rfD 30) [] (HR.out _) ?_; intro w2 ho2 hg2; have HO2 := Lib.hid ho2; have hb2 := hb1.grown hg2 hb1.size (fun j hj => by cases hj; exact Nat.le_refl _); clear ho2 hg2)
    | (refine wpList_insert_own (H := Unit) _ rfl _ (.const (.int .i64 3)) _ 45 rfl 3 48 keyI6 Tryd.underlying45 (fnElemP bs) w.heap.size 2 _ rfl HO2.out (by decide) (.int .i64 3) _ (.int .i64 3) rfl rfl (kI6 3 (by decide) (by decide)) (rfD 30) [] (HR.out _) ?_; intro w3 ho3 hg3; have HO3 := Lib.hid ho3; have hb3 := hb2.grown hg3 hb2.size (fun j hj => by cases hj; exact Nat.le_refl _); clear ho3 hg3)
    | (refine wpList_insert_own (H := Unit) _ rfl _ (.const (.int .i64 4)) _ 45 rfl 3 48 keyI6 Tryd.underlying45 (fnElemP bs) w.heap.size 3 _ rfl HO3.out (by decide) (.int .i64 4) _ (.int .i64 4) rfl rfl (kI6 4 (by decide) (by decide)) (rfD 31) [] (HR.out _) ?_; intro w4 ho4 hg4; have HO4 := Lib.hid ho4; have hb4 := hb3.grown hg4 hb3.size (fun j hj => by cases hj; exact Nat.le_refl _); clear ho4 hg4)
    | (refine wpList_insert_own (H := Unit) _ rfl _ (.const (.int .i64 5)) _ 45 rfl 3 48 keyI6 Tryd.underlying45 (fnElemP bs) w.heap.size 4 _ rfl HO4.out (by decide) (.int .i64 5) _ (.int .i64 5) rfl rfl (kI6 5 (by decide) (by decide)) (rfD 32) [] (HR.out _) ?_; intro w5 ho5 hg5; have HO5 := Lib.hid ho5; have hb5 := hb4.grown hg5 hb4.size (fun j hj => by cases hj; exact Nat.le_refl _); clear ho5 hg5)
    | (refine wpList_insert_own (H := Unit) _ rfl _ (.const (.int .i64 6)) _ 45 rfl 3 48 keyI6 Tryd.underlying45 (fnElemP bs) w.heap.size 5 _ rfl HO5.out (by decide) (.int .i64 6) _ (.int .i64 6) rfl rfl (kI6 6 (by decide) (by decide)) (rfD 33) [] (HR.out _) ?_; intro w6 ho6 hg6; have HO6 := Lib.hid ho6; have hb6 := hb5.grown hg6 hb5.size (fun j hj => by cases hj; exact Nat.le_refl _); clear ho6 hg6))
  go_ret
  exact ⟨rfl, HO6.out, hb6⟩
end Go.Proofs.YtpklpfncohdlhaaDoor
