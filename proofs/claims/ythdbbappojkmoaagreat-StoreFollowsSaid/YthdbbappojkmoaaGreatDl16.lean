/- StoreFollows: a list beside a mailbox loses a number; its bounds. -/
import Derived.Test.YthdbbappojkmoaaGreatEx16
import Derived.Test.YthdbbappojkmoaaGreatUDel
namespace Go.Proofs.YthdbbappojkmoaaGreat
open Go.RowKit

theorem slAt_u1 {w : World} {b x : Nat} (h : w.cell? ⟨b, 0, none⟩ = some (.int .u32 (x : Int))) (hb : b < w.heap.size) : SlAt encU 1 w (some ⟨b, 0, none⟩) [x] := by
  refine .inr ⟨b, 0, rfl, hb, fun j y hj i v hi => ?_⟩
  obtain rfl : j = 0 := by
    have := (List.getElem?_eq_some_iff.1 hj).1
    simpa using this
  obtain rfl : x = y := by simpa using hj
  obtain rfl : i = 0 := by
    have := (List.getElem?_eq_some_iff.1 hi).1
    simpa [encU] using this
  obtain rfl : v = .int .u32 (x : Int) := by simpa [encU] using hi.symm
  simpa using h
set_option maxRecDepth 100000 in
theorem cl16_any (bz u x : Nat) (k : Int) (f : Nat) (w : World) (hz : w.heap[bz]? = some (.cells #[.int .i64 k, .int .u32 (u : Int), .int .u8 (f : Int)] 44)) :
    Calls Tryz.prog 15 (#[.int .u32 (x : Int)] ++ #[.pointer (some ⟨bz, 0, none⟩)]) w fun e w' => e = .returned (.bool (decide (x = u))) ∧ Below w.heap.size w w' := by
  have c1 := cell_of_row _ _ 1 _ _ _ hz
  obtain ⟨r, hr⟩ : ∃ r, decide (x = u) = r := ⟨_, rfl⟩
  have hq : ((x : Int) == (u : Int)) = r := by
    rw [← hr]
    by_cases e : x = u
    · subst e
      simp
    · rw [decide_eq_false e]
      exact beq_eq_false_iff_ne.2 (by omega)
  rw [hr]
  clear hz hr
  go_enter Tryz.func15, Tryz.ntmps15
  go_wp2_with fail
  go_ret
  exact ⟨rfl, Below.refl _ _⟩
section
variable {B g : Nat} {st : StP} {w0 W W' : World}
theorem OX.del2 {b c : Nat} {l l' : List Nat} {it2 : Item} (h : OX B (ST g st) [u32I B (some ⟨b, 0, none⟩) c l, it2] w0 W) (hap : ApI it2 (u32I B (some ⟨b, 0, none⟩) c l)) (hk : KeptO (fun k => k = b) W W') (hr : RU b c l' W') (hl : l'.length ≤ c) (hm : c ≤ maxLen) (hB : B ≤ b) :
    OX B (ST g st) [u32I B (some ⟨b, 0, none⟩) c l', it2] w0 W' ∧ ApI it2 (u32I B (some ⟨b, 0, none⟩) c l') := by
  refine ⟨?_, fun k h1 ⟨a, ha, e⟩ => hap k h1 ⟨a, ha, e⟩⟩
  refine h.mut (ST.objK g st) (it := u32I B (some ⟨b, 0, none⟩) c l) (items' := [it2]) (List.mem_cons_self ..) (hk.mono fun k e => ⟨⟨b, 0, none⟩, rfl, e.symm⟩) [u32I B (some ⟨b, 0, none⟩) c l'] (fun x hx => ?_) (fun x hx => ?_)
  · obtain rfl := List.mem_singleton.1 hx
    exact ⟨hr.own hB hl hm, fun k ⟨a, ha, e⟩ => .inl ⟨a, ha, e⟩⟩
  · obtain rfl := List.mem_singleton.1 hx
    exact ⟨by simp, hap⟩
theorem OX.delC {A : Option Addr} {bz u f c : Nat} {k : Int} {l : List Nat} {it2 : Item} (h : OX B (ST g st) [u32I B A c l, it2] w0 W) (hap : ApI it2 (u32I B A c l)) (hl : l.length ≤ 100000) (hz : W.heap[bz]? = some (.cells #[.int .i64 k, .int .u32 (u : Int), .int .u8 (f : Int)] 44)) (hn : ∀ j, (u32I B A c l).blocks j → j ≠ bz) :
    Calls Tryz.prog 14 #[.slice A l.length c, .func (.func 15) #[] #[.pointer (some ⟨bz, 0, none⟩)]] W fun e w' => e = .returned (.slice A (l.filter fun x => !decide (x = u)).length c) ∧
      OX B (ST g st) [u32I B A c (l.filter fun x => !decide (x = u)), it2] w0 w' ∧ ApI it2 (u32I B A c (l.filter fun x => !decide (x = u))) := by
  by_cases h0 : l = []
  · subst h0
    refine (delU_nil (F := 15) (cs := #[.pointer (some ⟨bz, 0, none⟩)]) (fun args w => by simp [go_sem]) W).mono ?_
    rintro e w' ⟨rfl, hb⟩
    exact ⟨rfl, h.bel hb, hap⟩
  · obtain ⟨b, rfl, hB, _, hlc, hm, hr⟩ := RU.of_own (h.it (u32I B A c l) (by simp)) rfl h0
    have hbz : b ≠ bz := hn b ⟨_, rfl, rfl⟩
    have hlz := (Array.getElem?_eq_some_iff.1 hz).1
    refine (delU_any (F := 15) (cs := #[.pointer (some ⟨bz, 0, none⟩)]) (p := fun x => decide (x = u)) (KW := fun W => W.heap[bz]? = some (.cells #[.int .i64 k, .int .u32 (u : Int), .int .u8 (f : Int)] 44)) (fun args w => by simp [go_sem]) hl hlc hr hz
      (fun W1 W2 h1 hk => hk.heap h1 (fun e => hbz e.symm)) (fun x _ W1 h1 => cl16_any bz u x k f W1 h1)).mono ?_
    rintro e w' ⟨rfl, hr2, hk2⟩
    exact ⟨rfl, h.del2 hap hk2 hr2 (Nat.le_trans (List.length_filter_le _ _) hlc) hm hB⟩
end
/-- What stays under every call. -/
theorem app_cap (st : StP) (f : Nat) (b : List UInt8) : (appP st f b).1.cap = st.cap := by
  unfold appP
  split
  · rfl
  · split
    · rfl
    · split <;> rfl
theorem chg_cap (st : StP) (by_ : Int) (u : Nat) (mode : Int) (f : Nat) : (chgP st by_ u mode f).1.cap = st.cap := by
  unfold chgP
  split
  · rfl
  · split <;> rfl
end Go.Proofs.YthdbbappojkmoaaGreat
