/- A view in the middle of Apply: the view, the handlers, the responses; what the closure adds. -/
import Derived.Test.YtefodmbaknedkaaRf17
import Derived.Test.YtefodmbaknedkaaVk
import Derived.Test.YtefodmbaknedkaaVi
import Derived.Lib.SmallJoins
import Derived.Test.YtefodmbaknedkaaVl
import Derived.Test.YtefodmbaknedkaaIxR
import Derived.Test.YtefodmbaknedkaaVb
namespace Go.Proofs.Ytefodmbaknedkaa
open Go.RowKit

/-- The view behind some events of a call from the world w: the handlers H in block h, the responses O in the box o. -/
structure AP (w : World) (S : Nat → Prop) (h o : Nat) (H : Obj) (g : Nat) (v : List Nat) (Ao : Option Addr) (co : Nat) (O : List RI) (W : World) : Prop where
  view : ∃ S', VT g v S' W ∧ MoreQ S S' w ∧ ¬ S' h ∧ ¬ S' o ∧ ∀ a, Ao = some a → ¬ S' a.block
  kept : KeptO S w W
  hb : W.heap[h]? = some H
  ob : W.heap[o]? = some (.cells #[.slice Ao O.length co] 29 (0, 0))
  row : W.ownsRow w.heap.size 47 10 (.slice Ao O.length co) O.length (flatL enc0 O)
  ho : w.heap.size ≤ h
  oo : w.heap.size ≤ o
  ne : h ≠ o
  ap : ∀ a, Ao = some a → a.block ≠ h ∧ a.block ≠ o
section
variable {w W W' W1 W2 : World} {S : Nat → Prop} {h o : Nat} {H : Obj} {g : Nat} {v : List Nat} {Ao A3 : Option Addr} {co c3 : Nat} {O : List RI}
theorem AP.olt (p : AP w S h o H g v Ao co O W) : o < W.heap.size := (Array.getElem?_eq_some_iff.1 p.ob).1
theorem AP.hlt (p : AP w S h o H g v Ao co O W) : h < W.heap.size := (Array.getElem?_eq_some_iff.1 p.hb).1
theorem AP.below (p : AP w S h o H g v Ao co O W) (hb : Below W.heap.size W W') : AP w S h o H g v Ao co O W' := by
  obtain ⟨S', t, m, n1, n2, n3⟩ := p.view
  exact ⟨⟨S', (VT.objK g v).kept _ _ _ _ t (KeptO.of_below (S := fun _ => False) hb) (fun _ _ => id), m, n1, n2, n3⟩, p.kept.then_below hb, (hb.block h p.hlt).trans p.hb, (hb.block o p.olt).trans p.ob, own_below p.row hb, p.ho, p.oo, p.ne, p.ap⟩
theorem AP.box (p : AP w S h o H g v Ao co O W) : W.cell? ⟨o, 0, none⟩ = some (.slice Ao O.length co) ∧ W.frozen? ⟨o, 0, none⟩ = false := ⟨cell_of_row W o 0 _ _ _ p.ob, Joins.unfrozen_of_block p.ob 0⟩
/-- The view, opened: its index may change. -/
theorem AP.open (p : AP w S h o H g v Ao co O W) : ∃ b r, VX g b r v W ∧ ∀ r' v' W', Ix b r' v' W' → Two b r W W' → (r' = r ∨ W.heap.size ≤ r') → AP w S h o H g v' Ao co O W' := by
  obtain ⟨S', ⟨b, r, x, hS⟩, m, n1, n2, n3⟩ := p.view
  refine ⟨b, r, x, fun r' v' W' hi ht hr => ?_⟩
  have hgS := (hS g).2 (.inl rfl)
  have hbS := (hS b).2 (.inr (.inl rfl))
  have hrS := (hS r).2 (.inr (.inr rfl))
  have hk : KeptO (fun k => k = b ∨ k = r) W W' := ⟨ht.os, ht.tape, ht.output, ht.size, fun k hk hn => ht.block k hk (fun e => hn (.inl e)) (fun e => hn (.inr e))⟩
  have hrr : ∀ k, k < W.heap.size → k ≠ r → k ≠ r' := fun k hk hn e => by omega
  have hout : ∀ k, k < W.heap.size → ¬ S' k → k ≠ g ∧ k ≠ b ∧ k ≠ r' := fun k hk hn => ⟨fun e => hn (e ▸ hgS), fun e => hn (e ▸ hbS), hrr k hk fun e => hn (e ▸ hrS)⟩
  have hkeep : ∀ k, k < W.heap.size → ¬ S' k → W'.heap[k]? = W.heap[k]? := fun k hk hn => ht.block k hk (fun e => hn (e ▸ hbS)) (fun e => hn (e ▸ hrS))
  have hal : ∀ a, Ao = some a → a.block < W.heap.size := fun a ha => (own_blk15 p.row ha).2
  refine ⟨⟨fun k => k = g ∨ k = b ∨ k = r', ⟨b, r', ⟨(ht.block g x.lt x.gb x.gr).trans x.cell, hi, x.gb, hrr g x.lt x.gr⟩, fun k => Iff.rfl⟩, fun k hk => ?_, fun e => ?_, fun e => ?_, fun a ha e => ?_⟩, ?_, (hkeep h p.hlt n1).trans p.hb, (hkeep o p.olt n2).trans p.ob, own_lies p.row fun a ha => hkeep _ (hal a ha) (n3 a ha), p.ho, p.oo, p.ne, p.ap⟩
  · rcases hk with rfl | rfl | rfl
    · exact m _ hgS
    · exact m _ hbS
    · rcases hr with rfl | hr
      · exact m _ hrS
      · exact .inr (Nat.le_trans p.kept.size hr)
  · have := hout h p.hlt n1; rcases e with e | e | e <;> omega
  · have := hout o p.olt n2; rcases e with e | e | e <;> omega
  · have := hout _ (hal a ha) (n3 a ha); rcases e with e | e | e <;> omega
  · refine p.kept.trans hk fun j e => ?_
    rcases e with rfl | rfl
    · exact m _ hbS
    · exact m _ hrS
theorem AP.vx (p : AP w S h o H g v Ao co O W) : ∃ b r, VX g b r v W := by
  obtain ⟨b, r, x, _⟩ := p.open
  exact ⟨b, r, x⟩
/-- A response appended, and the row's value stored. -/
theorem AP.pushed (p : AP w S h o H g v Ao co O W) (r : RI) (hb : Below W.heap.size W W1) (hr : W2.ownsRow w.heap.size 47 10 (.slice A3 (O.length + [r].length) c3) (O.length + [r].length) (flatL enc0 O ++ flatL enc0 [r])) (hg : W1.grownBy W2 (Value.slice Ao O.length co).ownBlock) (hf : (Value.slice A3 (O.length + [r].length) c3).ownBlock = (Value.slice Ao O.length co).ownBlock ∨ (Value.slice A3 (O.length + [r].length) c3).ownBlock = some W1.heap.size) :
    W2.cell? ⟨o, 0, none⟩ = some (.slice Ao O.length co) ∧ W2.frozen? ⟨o, 0, none⟩ = false ∧ AP w S h o H g v A3 c3 (O ++ [r]) (W2.setCell ⟨o, 0, none⟩ (.slice A3 (O.length + 1) c3)) := by
  have p1 := p.below hb
  have hob : ∀ (A : Option Addr) n c, (Value.slice A n c).ownBlock = A.map Addr.block := fun A n c => by cases A <;> rfl
  rw [hob] at hg
  rw [hob, hob] at hf
  have hk : KeptO (fun k => ∃ a, Ao = some a ∧ a.block = k) W1 W2 := KeptO.of_grown hg fun r hr => by
    cases hA : Ao with
    | none => rw [hA] at hr; cases hr
    | some a => rw [hA] at hr; exact ⟨a, rfl, Option.some.inj hr⟩
  obtain ⟨S', t, m, n1, n2, n3⟩ := p1.view
  have h2 : W2.heap[h]? = some H := hk.heap p1.hb fun ⟨a, ha, e⟩ => (p.ap a ha).1 e
  have o2 := hk.heap p1.ob fun ⟨a, ha, e⟩ => (p.ap a ha).2 e
  have hA3 : ∀ a, A3 = some a → (∃ b, Ao = some b ∧ b.block = a.block) ∨ W1.heap.size = a.block := fun a ha => by
    rw [ha] at hf
    rcases hf with e | e
    · cases hA : Ao with
      | none => rw [hA] at e; cases e
      | some b => rw [hA] at e; exact .inl ⟨b, rfl, (Option.some.inj e).symm⟩
    · exact .inr (Option.some.inj e).symm
  have hgs := grown_setCell W2 o 0 (.slice A3 (O.length + 1) c3)
  have hl : (O ++ [r]).length = O.length + 1 := by simp
  have hlt1 := p1.olt
  have hlt2 := p1.hlt
  have a3 : ∀ a, A3 = some a → a.block ≠ h ∧ a.block ≠ o := fun a ha => by
    rcases hA3 a ha with ⟨b, hb, e⟩ | e
    · rw [← e]; exact p.ap b hb
    · omega
  have hk2 : KeptO (fun k => k = o ∨ ∃ a, Ao = some a ∧ a.block = k) W1 (W2.setCell ⟨o, 0, none⟩ (.slice A3 (O.length + 1) c3)) := (hk.mono fun k e => .inr e).trans (KeptO.of_grown (S := fun k => k = o ∨ ∃ a, Ao = some a ∧ a.block = k) hgs fun r hr => by cases hr; exact .inl rfl) fun _ e => .inl e
  refine ⟨cell_of_row W2 o 0 _ _ _ o2, Joins.unfrozen_of_block o2 0, ⟨S', (VT.objK g v).kept _ _ _ _ t hk2 fun k e e2 => ?_, m, n1, n2, fun a ha e => ?_⟩, p1.kept.trans hk2 fun j e => ?_, (hgs.block h (Array.getElem?_eq_some_iff.1 h2).1 fun e => p.ne (Option.some.inj e)).trans h2, ?_, ?_, p.ho, p.oo, p.ne, a3⟩
  · rcases e2 with rfl | ⟨a, ha, rfl⟩
    · exact n2 e
    · exact n3 a ha e
  · rcases hA3 a ha with ⟨b, hb, e3⟩ | e3
    · exact n3 b hb (e3 ▸ e)
    · have := (VT.objK g v).lt _ _ t _ e
      omega
  · rcases e with rfl | ⟨a, ha, rfl⟩
    · exact .inr p.oo
    · exact .inr (own_from p.row a ha)
  · rw [hl]
    simpa using Joins.block_setCell (i := 0) o2 (.slice A3 (O.length + 1) c3)
  · rw [hl, flatL_append]
    exact own_lies hr fun a ha => hgs.block _ (own_blk15 hr ha).2 fun e => (a3 a ha).2 (Option.some.inj e)
end
section
variable {w W : World} {S : Nat → Prop} {h o : Nat} {H : Obj} {g : Nat} {v : List Nat} {Ao : Option Addr} {co : Nat} {O : List RI}
set_option maxRecDepth 100000 in
set_option maxHeartbeats 1000000 in
theorem add_any (r : RI) (hO : O.length ≤ 100000) (p : AP w S h o H g v Ao co O W) :
    Calls Try.prog 31 #[.agg #[.int .i64 r.kind, .int .u32 (r.n : Int), .string ⟨#[]⟩, .int .i64 0, .string ⟨#[]⟩, .int .i64 r.items, .int .u8 (r.flags : Int), .int .u32 0, .int .u32 0, .slice none 0 0], .pointer (some ⟨o, 0, none⟩)] W fun e W' => e = .returned (.tuple #[]) ∧ ∃ A3 c3, AP w S h o H g v A3 c3 (O ++ [r]) W' := by
  obtain ⟨i0, hi, hz0, hz1, hz2⟩ := info_parts infoRs
  have HB := Lib.hid (below_next (below_al W (.cells #[.int .i64 r.kind, .int .u32 (r.n : Int), .string ⟨#[]⟩, .int .i64 0, .string ⟨#[]⟩, .int .i64 r.items, .int .u8 (r.flags : Int), .int .u32 0, .int .u32 0, .slice none 0 0] 47)) (below_al _ (.cells #[.int .i64 r.kind, .int .u32 (r.n : Int), .string ⟨#[]⟩, .int .i64 0, .string ⟨#[]⟩, .int .i64 r.items, .int .u8 (r.flags : Int), .int .u32 0, .int .u32 0, .slice none 0 0] 47)))
  have HP := Lib.hid (fun A3 c3 W2 => p.pushed (A3 := A3) (c3 := c3) (W2 := W2) r HB.out)
  have HRW := Lib.hid (own_below p.row HB.out)
  have HSE : Hid (SlAt enc0 10 ((W.alloc (.cells #[.int .i64 r.kind, .int .u32 (r.n : Int), .string ⟨#[]⟩, .int .i64 0, .string ⟨#[]⟩, .int .i64 r.items, .int .u8 (r.flags : Int), .int .u32 0, .int .u32 0, .slice none 0 0] 47)).alloc (.cells #[.int .i64 r.kind, .int .u32 (r.n : Int), .string ⟨#[]⟩, .int .i64 0, .string ⟨#[]⟩, .int .i64 r.items, .int .u8 (r.flags : Int), .int .u32 0, .int .u32 0, .slice none 0 0] 47)) (some ⟨W.heap.size + 1, 0, none⟩) [r]) := Lib.hid (by have := slAt_box (enc := enc0) (k := 10) (x := r) (T := 47) (W := (W.alloc (.cells #[.int .i64 r.kind, .int .u32 (r.n : Int), .string ⟨#[]⟩, .int .i64 0, .string ⟨#[]⟩, .int .i64 r.items, .int .u8 (r.flags : Int), .int .u32 0, .int .u32 0, .slice none 0 0] 47))) (cs := #[.int .i64 r.kind, .int .u32 (r.n : Int), .string ⟨#[]⟩, .int .i64 0, .string ⟨#[]⟩, .int .i64 r.items, .int .u8 (r.flags : Int), .int .u32 0, .int .u32 0, .slice none 0 0]) rfl; rwa [World.size_alloc] at this)
  have h63 : O.length + 1 ≤ maxLen := by unfold maxLen; omega
  have h64 : (O.length + 1) * 104 ≤ 140737488355328 := by omega
  have hba := Lib.hid (show w.heap.size ≤ ((W.alloc (.cells #[.int .i64 r.kind, .int .u32 (r.n : Int), .string ⟨#[]⟩, .int .i64 0, .string ⟨#[]⟩, .int .i64 r.items, .int .u8 (r.flags : Int), .int .u32 0, .int .u32 0, .slice none 0 0] 47)).alloc (.cells #[.int .i64 r.kind, .int .u32 (r.n : Int), .string ⟨#[]⟩, .int .i64 0, .string ⟨#[]⟩, .int .i64 r.items, .int .u8 (r.flags : Int), .int .u32 0, .int .u32 0, .slice none 0 0] 47)).heap.size by have := p.kept.size; simp; omega)
  obtain ⟨hc, hf⟩ := p.box
  have holt := p.olt
  clear p
  go_enter Try.func31, Try.ntmps31
  go_wp2_with (at_builtin; refine wpList_append_slg _ rfl _ _ 29 rfl w.heap.size 47 i0 _ 104 Try.underlying29 hi hz0 hz1 hz2 rfl (by decide) _ O.length _ rfl HRW.out ⟨W.heap.size + 1, 0, none⟩ [r] 1 1 rfl rfl enc0_len HSE.out (one_flat0 _) h63 h64 hba.out ?_; intro v' wz hown' hgrow hfr; obtain ⟨A3, c3, rfl⟩ := own_any hown'; obtain ⟨hcz, hfz, hp⟩ := HP.out A3 c3 wz hown' hgrow hfr; have HPP := Lib.hid hp; clear hown' hgrow hfr hp)
  refine bodyPost_end (results_none rfl _ _ _) rfl ?_
  exact ⟨rfl, A3, c3, HPP.out⟩
end
end Go.Proofs.Ytefodmbaknedkaa

namespace Go.Proofs.Ytefodmbaknedkaa
open Go.RowKit

theorem VX.det {g b r b1 r1 : Nat} {v v1 : List Nat} {W : World} (x : VX g b r v W) (y : VX g b1 r1 v1 W) : b = b1 := by
  have h := x.cell.symm.trans y.cell
  injection h with h
  injection h with h
  have h2 := congrArg (fun a => a[0]?) h
  simp at h2
  exact h2
section
variable {w W W1 : World} {S : Nat → Prop} {h o : Nat} {H : Obj} {g b r : Nat} {v : List Nat} {Ao : Option Addr} {co : Nat} {O : List RI}
theorem AP.remove (p : AP w S h o H g v Ao co O W) (x : VX g b r v W) (u : Nat) (hb : Below W.heap.size W W1) :
    Calls Try.prog 41 #[.pointer (some ⟨b, 0, none⟩), .int .u32 (u : Int)] W1 fun e W' => e = .returned (.int .i64 (posL v u : Nat)) ∧ AP w S h o H g (remL v u) Ao co O W' := by
  obtain ⟨b1, r1, x1, hop⟩ := (p.below hb).open
  obtain rfl := (x.below hb).det x1
  refine (ixremove_any u x1.ix).mono ?_
  rintro e W' ⟨rfl, h1, h2⟩
  exact ⟨rfl, hop r1 _ W' h1.out h2.out (.inl rfl)⟩
theorem AP.append (p : AP w S h o H g v Ao co O W) (x : VX g b r v W) (u : Nat) (hu : u ≤ 4294967295) (hl : v.length < 100000) (hb : Below W.heap.size W W1) :
    Calls Try.prog 39 #[.pointer (some ⟨b, 0, none⟩), .int .u32 (u : Int)] W1 fun e W' => (∃ q, e = .returned (.bool q)) ∧ AP w S h o H g (addV v u) Ao co O W' := by
  obtain ⟨b1, r1, x1, hop⟩ := (p.below hb).open
  obtain rfl := (x.below hb).det x1
  refine (ixappend_any u hu hl x1.ix).mono ?_
  rintro e W' ⟨rfl, r', l', hl', h1, h2, h3⟩
  subst hl'
  exact ⟨⟨_, rfl⟩, hop r' _ W' h1.out h2.out h3⟩
theorem AP.known (_p : AP w S h o H g v Ao co O W) (x : VX g b r v W) (hb : Below W.heap.size W W1) :
    Calls Try.prog 32 #[.pointer (some ⟨g, 0, none⟩)] W1 fun e W' => e = .returned (.pointer (some ⟨b, 0, none⟩)) ∧ W1 = W' := known_any (x.below hb)
/-- The events' list at a later world. -/
theorem AP.evs {A : Option Addr} {l : List EvI} (p : AP w S h o H g v Ao co O W) (hS : SlAt encEv 3 w A l) (hO : Out S A) : SlAt encEv 3 W A l := hS.keptO hO p.kept
theorem addN_any (k : Int) (n : Nat) (hO : O.length ≤ 50000) (p : AP w S h o H g v Ao co O W) :
    Calls Try.prog 31 #[.agg #[.int .i64 k, .int .u32 (n : Int), .string ⟨#[]⟩, .int .i64 0, .string ⟨#[]⟩, .int .i64 0, .int .u8 0, .int .u32 0, .int .u32 0, .slice none 0 0], .pointer (some ⟨o, 0, none⟩)] W fun e W' => e = .returned (.tuple #[]) ∧ ∃ A3 c3, AP w S h o H g v A3 c3 (O ++ [rN k n]) W' := add_any (rN k n) (by omega) p
theorem addF_any (n f : Nat) (hO : O.length ≤ 50000) (p : AP w S h o H g v Ao co O W) :
    Calls Try.prog 31 #[.agg #[.int .i64 4, .int .u32 (n : Int), .string ⟨#[]⟩, .int .i64 0, .string ⟨#[]⟩, .int .i64 1, .int .u8 (f : Int), .int .u32 0, .int .u32 0, .slice none 0 0], .pointer (some ⟨o, 0, none⟩)] W fun e W' => e = .returned (.tuple #[]) ∧ ∃ A3 c3, AP w S h o H g v A3 c3 (O ++ [rF n f]) W' := add_any (rF n f) (by omega) p
theorem pos_iff (v : List Nat) (u : Nat) : 0 < posL v u ↔ u ∈ v := by
  unfold posL
  split <;> simp [*]
set_option maxRecDepth 100000 in
set_option maxHeartbeats 4000000 in
theorem gone_any (e : EvI) (l : List EvI) (A : Option Addr) (c : Nat) (hO : O.length ≤ 50000) (hv : v.length ≤ 100000) (hS : SlAt encEv 3 w A (e :: l)) (hA : Out S A) (p : AP w S h o H g v Ao co O W) :
    Calls Try.prog 29 #[.pointer (some ⟨g, 0, none⟩), .slice A (l.length + 1) c, .func (.func 31) #[] #[.pointer (some ⟨o, 0, none⟩)]] W fun x W' => x = .returned (.slice (offG 3 A c 1) l.length (c - 1)) ∧
      ∃ A3 c3, AP w S h o H g (remL v e.u) A3 c3 (O ++ if e.u ∈ v then [rN 3 (posL v e.u)] else []) W' := by
  obtain ⟨b, r, x⟩ := p.vx
  have KN := Lib.hid (fun W1 hb => p.known (W1 := W1) x hb)
  have RM := Lib.hid (fun W1 hb => p.remove (W1 := W1) x e.u hb)
  have CN := Lib.hid (fun W1 n hn => vcount_any 3 n hn W1)
  have hpl : posL v e.u ≤ 100001 := Nat.le_trans (posL_le v e.u) (by omega)
  have R0 : Hid (posL v e.u = 0 → (if e.u ∈ v then [rN 3 (posL v e.u)] else ([] : List RI)) = []) := Lib.hid fun h => if_neg fun h2 => by have := (pos_iff v e.u).2 h2; omega
  have R1 : Hid (0 < posL v e.u → (if e.u ∈ v then [rN 3 (posL v e.u)] else ([] : List RI)) = [rN 3 (posL v e.u)]) := Lib.hid fun h => if_pos ((pos_iff v e.u).1 h)
  have AD := Lib.hid (fun W1 (q : AP w S h o H g (remL v e.u) Ao co O W1) (n : Nat) => addN_any 3 n hO q)
  obtain ⟨eb, eo, rfl, _, e0, e1, e2⟩ := (p.evs hS hA).ev (j := 0) (by simp)
  simp only [List.getElem_cons_zero, Nat.zero_mul, Nat.add_zero] at e0 e1 e2
  have SL := sliceV_1 (some ⟨eb, eo, none⟩) l.length c
  have SA := sliceAtV
  have hq : (0 : Int) < ((l.length + 1 : Nat) : Int) := by omega
  generalize (if e.u ∈ v then [rN 3 (posL v e.u)] else ([] : List RI)) = R at *
  generalize posL v e.u = pn at *
  generalize l.length = n at *
  generalize remL v e.u = v2 at *
  clear hS hA p x e0 e2 hO hv
  generalize e.u = u at *
  go_enter Try.func29, Try.ntmps29
  go_upto_region 1 with (fail)
  go_region_with (first
    | (go_at_call 32; refine (KN.out _ (by repeat (first | assumption | exact Below.refl _ _ | refine belowDrawN ?_ _ | refine belowDraw ?_ | refine belowAlloc ?_ _))).mono ?_; rintro e' w1 ⟨rfl, rfl⟩)
    | (go_at_call 41; refine (RM.out _ (by repeat (first | assumption | exact Below.refl _ _ | refine belowDrawN ?_ _ | refine belowDraw ?_ | refine belowAlloc ?_ _))).mono ?_; rintro e' w1 ⟨rfl, p1⟩))
  all_goals
    have hp1 := Lib.hid p1
    clear KN RM e1 p1
    rcases Nat.eq_zero_or_pos pn with h0 | h0
    · subst h0
      go_wp2_with fail
      go_ret
      have e9 := R0.out (by first | rfl | trivial)
      exact ⟨rfl, Ao, co, by rw [e9, List.append_nil]; exact hp1.out⟩
    · have h1 : (0 : Int) < (pn : Int) := by omega
      go_wp2_with fail
      refine (CN.out _ pn (by omega)).mono ?_
      rintro e' w2 ⟨rfl, hb⟩
      have p2 := Lib.hid (hp1.out.below hb)
      clear hb
      go_wp2_with fail
      refine (AD.out _ p2.out pn).mono ?_
      rintro e' w3 ⟨rfl, A3, c3, p3⟩
      have p4 := Lib.hid p3
      clear p3
      go_wp2_with fail
      go_ret
      have e9 := R1.out h0
      exact ⟨rfl, A3, c3, by rw [e9]; exact p4.out⟩
set_option maxRecDepth 100000 in
set_option maxHeartbeats 4000000 in
theorem changed_any (e : EvI) (l : List EvI) (A : Option Addr) (c : Nat) (hO : O.length ≤ 50000) (hv : v.length ≤ 100000) (hS : SlAt encEv 3 w A (e :: l)) (hA : Out S A) (p : AP w S h o H g v Ao co O W) :
    Calls Try.prog 30 #[.pointer (some ⟨g, 0, none⟩), .slice A (l.length + 1) c, .func (.func 31) #[] #[.pointer (some ⟨o, 0, none⟩)]] W fun x W' => x = .returned (.slice (offG 3 A c 1) l.length (c - 1)) ∧
      ∃ A3 c3, AP w S h o H g v A3 c3 (O ++ if e.u ∈ v then [rF (posL v e.u) e.f] else []) W' := by
  obtain ⟨b, r, x⟩ := p.vx
  have SQ := Lib.hid (vseq0_any e.u x)
  have MS := Lib.hid (fun W1 n hn => vmsg_any n hn (e.f : Int) W1)
  have hpl : posL v e.u ≤ 100001 := Nat.le_trans (posL_le v e.u) (by omega)
  have R0 : Hid (posL v e.u = 0 → (if e.u ∈ v then [rF (posL v e.u) e.f] else ([] : List RI)) = []) := Lib.hid fun h => if_neg fun h2 => by have := (pos_iff v e.u).2 h2; omega
  have R1 : Hid (0 < posL v e.u → (if e.u ∈ v then [rF (posL v e.u) e.f] else ([] : List RI)) = [rF (posL v e.u) e.f]) := Lib.hid fun h => if_pos ((pos_iff v e.u).1 h)
  have AD := Lib.hid (fun W1 (q : AP w S h o H g v Ao co O W1) (n : Nat) => addF_any n e.f hO q)
  obtain ⟨eb, eo, rfl, hlt, e0, e1, e2⟩ := (p.evs hS hA).ev (j := 0) (by simp)
  simp only [List.getElem_cons_zero, Nat.zero_mul, Nat.add_zero] at e0 e1 e2
  have SL := sliceV_1 (some ⟨eb, eo, none⟩) l.length c
  have SA := sliceAtV
  have C2 : Hid (∀ W1, Below W.heap.size W W1 → W1.cell? ⟨eb, eo + 2, none⟩ = some (.int .u8 (e.f : Int))) := Lib.hid fun W1 hb => (hb.cell (p := ⟨eb, eo + 2, none⟩) hlt).trans e2
  have PP := Lib.hid p
  have hq : (0 : Int) < ((l.length + 1 : Nat) : Int) := by omega
  generalize (if e.u ∈ v then [rF (posL v e.u) e.f] else ([] : List RI)) = R at *
  generalize posL v e.u = pn at *
  generalize l.length = n at *
  clear hS hA p x e0 e2 hO hv hlt
  generalize e.u = u at *
  generalize e.f = f at *
  go_enter Try.func30, Try.ntmps30
  go_wp2_with fail
  refine SQ.out.mono ?_
  rintro e' w1 ⟨rfl, hb⟩
  have p1 := Lib.hid (PP.out.below hb)
  have c2 := C2.out _ hb
  clear SQ e1 PP C2 hb
  rcases Nat.eq_zero_or_pos pn with h0 | h0
  · subst h0
    go_wp2_with fail
    go_ret
    have e9 := R0.out (by first | rfl | trivial)
    exact ⟨rfl, Ao, co, by rw [e9, List.append_nil]; exact p1.out⟩
  · have h1 : (0 : Int) < (pn : Int) := by omega
    go_wp2_with fail
    refine (MS.out _ pn (by omega)).mono ?_
    rintro e' w2 ⟨rfl, hb⟩
    have p2 := Lib.hid (p1.out.below hb)
    clear hb c2
    go_wp2_with fail
    refine (AD.out _ p2.out pn).mono ?_
    rintro e' w3 ⟨rfl, A3, c3, p3⟩
    have p4 := Lib.hid p3
    clear p3
    go_wp2_with fail
    go_ret
    have e9 := R1.out h0
    exact ⟨rfl, A3, c3, by rw [e9]; exact p4.out⟩
end
end Go.Proofs.Ytefodmbaknedkaa

namespace Go.Proofs.Ytefodmbaknedkaa
open Go.RowKit

/-- The view and the events left behind the events Arrived in front. -/
def arrV : List Nat → List EvI → List Nat × List EvI
  | v, [] => (v, [])
  | v, e :: l => if e.k = 1 then arrV (addV v e.u) l else (v, e :: l)
/-- The response of one or more events Arrived. -/
def toldV (v V : List Nat) : List RI := if v.length < V.length then [rN 1 V.length] else []
def slLen : Value → Nat
  | .slice _ n _ => n
  | _ => 0
/-- Where the walk over the events Arrived stands. -/
structure ArI (w : World) (S : Nat → Prop) (h o : Nat) (H : Obj) (g : Nat) (v : List Nat) (Ao : Option Addr) (co : Nat) (O : List RI) (l m : List EvI) (A : Option Addr) (c : Nat) (V : List Nat) (W : World) : Prop where
  ap : AP w S h o H g V Ao co O W
  sl : SlAt encEv 3 w A m
  out : m = [] ∨ Out S A
  cap : m.length ≤ c
  len : V.length + m.length ≤ v.length + l.length
  mono : v.length ≤ V.length
  ok : ∀ e ∈ m, evOk e
  eq : arrV V m = arrV v l
section
variable {w W W' W1 : World} {S : Nat → Prop} {h o : Nat} {H : Obj} {g b r : Nat} {v V : List Nat} {Ao A : Option Addr} {co c : Nat} {O : List RI} {l m : List EvI} {e : EvI}
theorem cut1 (hs : SlAt encEv 3 w A (e :: m)) (ho : Out S A) (hc : (e :: m).length ≤ c) : SlAt encEv 3 w (offG 3 A c 1) m ∧ Out S (offG 3 A c 1) ∧ m.length ≤ c - 1 := by
  refine ⟨by simpa using hs.cutDrop (lo := 1) hc, fun a ha => offG_blk (P := fun k => ¬ S k) (fun a ha => ho a ha) a ha, ?_⟩
  simp at hc
  omega
theorem addV_mono (v : List Nat) (u : Nat) : v.length ≤ (addV v u).length := by
  unfold addV
  split
  · simp
  · omega
theorem ArI.next (i : ArI w S h o H g v Ao co O l (e :: m) A c V W) (hk : e.k = 1) (p : AP w S h o H g (addV V e.u) Ao co O W') : ArI w S h o H g v Ao co O l m (offG 3 A c 1) (c - 1) (addV V e.u) W' := by
  have ho : Out S A := i.out.resolve_left (by simp)
  obtain ⟨k1, k2, k3⟩ := cut1 i.sl ho i.cap
  have h1 := addV_len V e.u
  have h2 := addV_mono V e.u
  have h3 := i.len
  have h4 := i.mono
  simp only [List.length_cons] at h3
  refine ⟨p, k1, .inr k2, k3, by omega, by omega, fun x hx => i.ok x (List.mem_cons_of_mem _ hx), ?_⟩
  have := i.eq
  rwa [arrV, if_pos hk] at this
theorem ArI.stop (i : ArI w S h o H g v Ao co O l (e :: m) A c V W) (hk : e.k ≠ 1) : arrV v l = (V, e :: m) := by
  have := i.eq
  rw [arrV, if_neg hk] at this
  exact this.symm
set_option maxRecDepth 100000 in
set_option maxHeartbeats 4000000 in
theorem arrived_any (l : List EvI) (A : Option Addr) (c : Nat) (hO : O.length ≤ 50000) (hv : v.length + l.length ≤ 60000) (hok : ∀ e ∈ l, evOk e) (hS : SlAt encEv 3 w A l) (hA : l = [] ∨ Out S A) (hc : l.length ≤ c) (p : AP w S h o H g v Ao co O W) :
    Calls Try.prog 28 #[.pointer (some ⟨g, 0, none⟩), .slice A l.length c, .func (.func 31) #[] #[.pointer (some ⟨o, 0, none⟩)]] W fun x W' => ∃ A2 c2, x = .returned (.slice A2 (arrV v l).2.length c2) ∧ SlAt encEv 3 w A2 (arrV v l).2 ∧ ((arrV v l).2 = [] ∨ Out S A2) ∧ (arrV v l).2.length ≤ c2 ∧
      ∃ A3 c3, AP w S h o H g (arrV v l).1 A3 c3 (O ++ toldV v (arrV v l).1) W' := by
  obtain ⟨b, r, x⟩ := p.vx
  have LN := Lib.hid (vlen0_any x)
  have CN := Lib.hid (fun W1 n hn => vcount_any 1 n hn W1)
  have AD := Lib.hid (fun V W1 (q : AP w S h o H g V Ao co O W1) (n : Nat) => addN_any 1 n hO q)
  have I0 : Hid (ArI w S h o H g v Ao co O l l A c v W) := Lib.hid ⟨p, hS, hA, hc, Nat.le_refl _, Nat.le_refl _, hok, rfl⟩
  have SA := sliceAtV
  have hll : l.length ≤ 60000 := by omega
  clear hS hA hc hok hO p x
  go_enter Try.func28, Try.ntmps28
  go_wp2_with fail
  refine LN.out.mono ?_
  rintro e' w1 ⟨rfl, rfl⟩
  clear LN
  go_wp2_with fail
  go_loopw [1] (fun s1 wr => ∃ (m : List EvI) (A2 : Option Addr) (c2 : Nat) (V : List Nat), s1 = .slice A2 m.length c2 ∧ Hid (ArI w S h o H g v Ao co O l m A2 c2 V wr)) (fun s1 _ => slLen s1)
  case atStart => exact ⟨l, A, c, v, rfl, I0⟩
  case round =>
    obtain ⟨m, A2, c2, V, rfl, I1⟩ := hrel
    clear I0
    rcases m with _ | ⟨e, m⟩
    · have HE := Lib.hid (show arrV v l = (V, []) from I1.out.eq.symm)
      have HEX := Lib.hid trivial
      obtain ⟨b, r, x⟩ := I1.out.ap.vx
      have LN := Lib.hid (vlen0_any x)
      have hlv : V.length ≤ 60000 := by have := I1.out.len; omega
      have P1 := Lib.hid I1.out.ap
      simp only [List.length_nil] at *
      have M1 := Lib.hid I1.out.mono
      have K1 := Lib.hid (show SlAt encEv 3 w A2 ([] : List EvI) ∧ (([] : List EvI) = [] ∨ Out S A2) ∧ (([] : List EvI)).length ≤ c2 from ⟨I1.out.sl, I1.out.out, I1.out.cap⟩)
      clear x I1 hll HEX
      go_wp2_with fail
      refine LN.out.mono ?_
      rintro e' w1 ⟨rfl, rfl⟩
      clear LN
      by_cases hg : v.length < V.length
      · have hg2 : (v.length : Int) < (V.length : Int) := by omega
        obtain ⟨b, r, x⟩ := P1.out.vx
        have LN := Lib.hid (vlen0_any x)
        clear x
        go_wp2_with fail
        refine LN.out.mono ?_
        rintro e' w1 ⟨rfl, rfl⟩
        clear LN
        go_wp2_with fail
        refine (CN.out _ V.length (by omega)).mono ?_
        rintro e' w2 ⟨rfl, hb⟩
        have P2 := Lib.hid (P1.out.below hb)
        clear hb
        go_wp2_with fail
        refine (AD.out V _ P2.out V.length).mono ?_
        rintro e' w3 ⟨rfl, A3, c3, p3⟩
        have P3 := Lib.hid p3
        clear p3
        go_wp2_with fail
        go_ret
        exact ⟨A2, c2, by rw [HE.out]; rfl, by rw [HE.out]; exact K1.out.1, by rw [HE.out]; first | exact K1.out.2.1 | exact .inl rfl, by rw [HE.out]; exact K1.out.2.2, A3, c3, by rw [HE.out, show toldV v V = [rN 1 V.length] from if_pos hg]; exact P3.out⟩
      · have hg2 : ¬ (v.length : Int) < (V.length : Int) := by omega
        go_wp2_with fail
        go_ret
        exact ⟨A2, c2, by rw [HE.out]; rfl, by rw [HE.out]; exact K1.out.1, by rw [HE.out]; first | exact K1.out.2.1 | exact .inl rfl, by rw [HE.out]; exact K1.out.2.2, Ao, co, by rw [HE.out, show toldV v V = [] from if_neg hg, List.append_nil]; exact P1.out⟩
    · obtain ⟨eb, eo, rfl, hlt, e0, e1, e2⟩ := (I1.out.ap.evs I1.out.sl (I1.out.out.resolve_left (by simp))).ev (j := 0) (by simp)
      simp only [List.getElem_cons_zero, Nat.zero_mul, Nat.add_zero] at e0 e1 e2
      have hq : (0 : Int) < ((m.length + 1 : Nat) : Int) := by omega
      by_cases hk : e.k = 1
      · have HN := Lib.hid (fun W' p => I1.out.next (W' := W') hk p)
        obtain ⟨b, r, x⟩ := I1.out.ap.vx
        have hml : m.length ≤ 60000 := by have := I1.out.len; simp only [List.length_cons] at this; omega
        have KN := Lib.hid (fun W1 hb => I1.out.ap.known (W1 := W1) x hb)
        have APP := Lib.hid (fun W1 hb => I1.out.ap.append (W1 := W1) x e.u (I1.out.ok e (List.mem_cons_self ..)).2.1 (by have := I1.out.len; omega) hb)
        have SL := sliceV_1 (some ⟨eb, eo, none⟩) m.length c2
        rw [hk] at e0
        simp only [List.length_cons] at *
        clear hk x e2 I1 CN AD hll
        generalize e.u = u at *
        go_upto_region 3 with (fail)
        go_region_with (first
          | (go_at_call 32; refine (KN.out _ (by repeat (first | assumption | exact Below.refl _ _ | refine belowDrawN ?_ _ | refine belowDraw ?_ | refine belowAlloc ?_ _))).mono ?_; rintro e' w1 ⟨rfl, rfl⟩)
          | (go_at_call 39; refine (APP.out _ (by repeat (first | assumption | exact Below.refl _ _ | refine belowDrawN ?_ _ | refine belowDraw ?_ | refine belowAlloc ?_ _))).mono ?_; rintro e' w1 ⟨⟨q1, rfl⟩, p1⟩; have P1 := Lib.hid p1; clear p1))
        all_goals
          clear KN APP e0 e1
          go_wp2_with fail
          go_roundw
          case rel => exact ⟨m, _, _, _, rfl, Lib.hid (HN.out _ P1.out)⟩
          case measure => simp [slLen]
      · have n1 : (e.k == 1) = false := beq_eq_false_iff_ne.2 hk
        have HE := Lib.hid (I1.out.stop hk)
        have HEX := Lib.hid trivial
        obtain ⟨b, r, x⟩ := I1.out.ap.vx
        have LN := Lib.hid (vlen0_any x)
        have hlv : V.length ≤ 60000 := by have := I1.out.len; omega
        have P1 := Lib.hid I1.out.ap
        simp only [List.length_cons] at *
        have M1 := Lib.hid I1.out.mono
        have K1 := Lib.hid (show SlAt encEv 3 w (some ⟨eb, eo, none⟩) (e :: m) ∧ ((e :: m) = [] ∨ Out S (some ⟨eb, eo, none⟩)) ∧ ((e :: m)).length ≤ c2 from ⟨I1.out.sl, I1.out.out, I1.out.cap⟩)
        clear x I1 hll HEX
        go_wp2_with fail
        refine LN.out.mono ?_
        rintro e' w1 ⟨rfl, rfl⟩
        clear LN
        by_cases hg : v.length < V.length
        · have hg2 : (v.length : Int) < (V.length : Int) := by omega
          obtain ⟨b, r, x⟩ := P1.out.vx
          have LN := Lib.hid (vlen0_any x)
          clear x
          go_wp2_with fail
          refine LN.out.mono ?_
          rintro e' w1 ⟨rfl, rfl⟩
          clear LN
          go_wp2_with fail
          refine (CN.out _ V.length (by omega)).mono ?_
          rintro e' w2 ⟨rfl, hb⟩
          have P2 := Lib.hid (P1.out.below hb)
          clear hb
          go_wp2_with fail
          refine (AD.out V _ P2.out V.length).mono ?_
          rintro e' w3 ⟨rfl, A3, c3, p3⟩
          have P3 := Lib.hid p3
          clear p3
          go_wp2_with fail
          go_ret
          exact ⟨some ⟨eb, eo, none⟩, c2, by rw [HE.out]; rfl, by rw [HE.out]; exact K1.out.1, by rw [HE.out]; first | exact K1.out.2.1 | exact .inl rfl, by rw [HE.out]; exact K1.out.2.2, A3, c3, by rw [HE.out, show toldV v V = [rN 1 V.length] from if_pos hg]; exact P3.out⟩
        · have hg2 : ¬ (v.length : Int) < (V.length : Int) := by omega
          go_wp2_with fail
          go_ret
          exact ⟨some ⟨eb, eo, none⟩, c2, by rw [HE.out]; rfl, by rw [HE.out]; exact K1.out.1, by rw [HE.out]; first | exact K1.out.2.1 | exact .inl rfl, by rw [HE.out]; exact K1.out.2.2, Ao, co, by rw [HE.out, show toldV v V = [] from if_neg hg, List.append_nil]; exact P1.out⟩
end
end Go.Proofs.Ytefodmbaknedkaa

namespace Go.Proofs.Ytefodmbaknedkaa
open Go.RowKit

theorem arr_stop {v : List Nat} {l : List EvI} (h : nextA l = false) : arrV v l = (v, l) := by
  cases l with
  | nil => rfl
  | cons e l =>
    unfold arrV
    rw [if_neg]
    exact of_decide_eq_false h
theorem arr_cons {v : List Nat} {e : EvI} {l : List EvI} (h : e.k = 1) : arrV v (e :: l) = arrV (addV v e.u) l := by
  rw [arrV, if_pos h]
theorem arr_mono : ∀ (l : List EvI) (v : List Nat), v.length ≤ (arrV v l).1.length ∧ (arrV v l).1.length + (arrV v l).2.length ≤ v.length + l.length ∧ (∀ x ∈ (arrV v l).2, x ∈ l) ∧ (arrV v l).2.length ≤ l.length
  | [], v => ⟨Nat.le_refl _, Nat.le_refl _, fun _ h => h, Nat.le_refl _⟩
  | e :: l, v => by
    by_cases h : e.k = 1
    · rw [arr_cons h]
      obtain ⟨h1, h2, h3, h4⟩ := arr_mono l (addV v e.u)
      have h5 := addV_len v e.u
      have h6 := addV_mono v e.u
      rw [List.length_cons]
      exact ⟨by omega, by omega, fun x hx => List.mem_cons_of_mem _ (h3 x hx), by omega⟩
    · have e1 : arrV v (e :: l) = (v, e :: l) := by rw [arrV, if_neg h]
      rw [e1]
      exact ⟨Nat.le_refl _, Nat.le_refl _, fun _ h => h, Nat.le_refl _⟩
theorem arr_less {e : EvI} {l : List EvI} {v : List Nat} (h : e.k = 1) : (arrV v (e :: l)).2.length ≤ l.length := by
  rw [arr_cons h]
  exact (arr_mono l _).2.2.2
theorem addV_dec (v : List Nat) (u : Nat) : decide (v.length < (addV v u).length) = decide (lastL v < u) := by
  unfold addV
  split
  · next h => rw [decide_eq_true h, decide_eq_true (by simp)]
  · next h => rw [decide_eq_false h, decide_eq_false (by omega)]
def toldB (g : Bool) (v V : List Nat) : List RI := if (g || decide (v.length < V.length)) = true then [rN 1 V.length] else []
theorem apV_arr : ∀ (l : List EvI) (v : List Nat) (g : Bool), nextA l = true → apV v g l = ((apV (arrV v l).1 false (arrV v l).2).1, toldB g v (arrV v l).1 ++ (apV (arrV v l).1 false (arrV v l).2).2)
  | [], v, g, h => by cases h
  | e :: l, v, g, h => by
    have h1 : e.k = 1 := of_decide_eq_true h
    have hd := addV_dec v e.u
    have hm := addV_mono v e.u
    rw [arr_cons h1]
    cases hn : nextA l with
    | false =>
      rw [arr_stop hn]
      simp only
      unfold toldB
      rw [hd]
      cases hg : (g || decide (lastL v < e.u)) with
      | false => rw [ap_grow h1 (by rw [hg]; rfl), hg]; simp
      | true => rw [ap_emit h1 (by rw [hg, hn]; rfl)]; simp
    | true =>
      rw [ap_grow h1 (by rw [hn]; simp), apV_arr l (addV v e.u) _ hn]
      have hml := (arr_mono l (addV v e.u)).1
      congr 2
      unfold toldB
      congr 1
      rw [← hd]
      cases g with
      | true => simp
      | false =>
        simp
        omega
theorem apV_arr0 {e : EvI} {l : List EvI} (v : List Nat) (h : e.k = 1) : apV v false (e :: l) = ((apV (arrV v (e :: l)).1 false (arrV v (e :: l)).2).1, toldV v (arrV v (e :: l)).1 ++ (apV (arrV v (e :: l)).1 false (arrV v (e :: l)).2).2) := by
  have := apV_arr (e :: l) v false (decide_eq_true h)
  rw [this]
  unfold toldB toldV
  simp
theorem toldV_len (v V : List Nat) : (toldV v V).length ≤ 1 := by
  unfold toldV
  split <;> simp
theorem apV_gone0 {e : EvI} {l : List EvI} (v : List Nat) (h : e.k = 2) : apV v false (e :: l) = ((apV (remL v e.u) false l).1, (if e.u ∈ v then [rN 3 (posL v e.u)] else []) ++ (apV (remL v e.u) false l).2) := by
  by_cases hm : e.u ∈ v
  · rw [ap_gone h hm, if_pos hm]
  · rw [ap_not (by omega) hm, if_neg hm, rem_not hm, List.nil_append]
theorem apV_chg0 {e : EvI} {l : List EvI} (v : List Nat) (h : e.k = 3) : apV v false (e :: l) = ((apV v false l).1, (if e.u ∈ v then [rF (posL v e.u) e.f] else []) ++ (apV v false l).2) := by
  by_cases hm : e.u ∈ v
  · rw [ap_chg h hm, if_pos hm]
  · rw [ap_not (by omega) hm, if_neg hm, List.nil_append]
theorem ite1_len {p : Prop} [Decidable p] (r : RI) : (if p then [r] else ([] : List RI)).length ≤ 1 := by
  split <;> simp
/-- Where Apply stands. -/
structure ApI (w : World) (S : Nat → Prop) (h o : Nat) (H : Obj) (g : Nat) (v : List Nat) (l m : List EvI) (A : Option Addr) (c : Nat) (V : List Nat) (Ao : Option Addr) (co : Nat) (O : List RI) (W : World) : Prop where
  ap : AP w S h o H g V Ao co O W
  sl : SlAt encEv 3 w A m
  out : m = [] ∨ Out S A
  cap : m.length ≤ c
  ok : ∀ e ∈ m, evOk e
  len : V.length + m.length ≤ v.length + l.length
  ol : O.length + m.length ≤ l.length
  e1 : (apV V false m).1 = (apV v false l).1
  e2 : O ++ (apV V false m).2 = (apV v false l).2
section
variable {w W W' : World} {S : Nat → Prop} {h o : Nat} {H : Obj} {g : Nat} {v V V' : List Nat} {Ao A A2 A3 : Option Addr} {co c c2 c3 : Nat} {O R : List RI} {l m m' : List EvI} {e : EvI}
theorem ApI.step (i : ApI w S h o H g v l m A c V Ao co O W) (p : AP w S h o H g V' A3 c3 (O ++ R) W') (hs : SlAt encEv 3 w A2 m') (ho : m' = [] ∨ Out S A2) (hc : m'.length ≤ c2) (hok : ∀ x ∈ m', x ∈ m) (hlen : V'.length + m'.length ≤ V.length + m.length) (hR : R.length + m'.length ≤ m.length)
    (he : apV V false m = ((apV V' false m').1, R ++ (apV V' false m').2)) : ApI w S h o H g v l m' A2 c2 V' A3 c3 (O ++ R) W' := by
  have h1 := i.len
  have h2 := i.ol
  refine ⟨p, hs, ho, hc, fun x hx => i.ok x (hok x hx), by omega, by rw [List.length_append]; omega, ?_, ?_⟩
  · rw [← i.e1, he]
  · rw [← i.e2, he, List.append_assoc]
theorem ApI.skip (i : ApI w S h o H g v l (e :: m) A c V Ao co O W) (h1 : e.k ≠ 1) (h2 : e.k ≠ 2) (h3 : e.k ≠ 3) : ApI w S h o H g v l m (offG 3 A c 1) (c - 1) V Ao co O W := by
  obtain ⟨k1, k2, k3⟩ := cut1 i.sl (i.out.resolve_left (by simp)) i.cap
  have := ApI.step (R := []) i (by rw [List.append_nil]; exact i.ap) k1 (.inr k2) k3 (fun x hx => List.mem_cons_of_mem _ hx) (by rw [List.length_cons]; omega) (by simp) (by rw [ap_other h1 h2 h3]; rfl)
  rwa [List.append_nil] at this
theorem ApI.gone (i : ApI w S h o H g v l (e :: m) A c V Ao co O W) (hk : e.k = 2) (p : AP w S h o H g (remL V e.u) A3 c3 (O ++ if e.u ∈ V then [rN 3 (posL V e.u)] else []) W') : ApI w S h o H g v l m (offG 3 A c 1) (c - 1) (remL V e.u) A3 c3 (O ++ if e.u ∈ V then [rN 3 (posL V e.u)] else []) W' := by
  obtain ⟨k1, k2, k3⟩ := cut1 i.sl (i.out.resolve_left (by simp)) i.cap
  have h1 := remL_len V e.u
  have h2 := ite1_len (p := e.u ∈ V) (rN 3 (posL V e.u))
  exact i.step p k1 (.inr k2) k3 (fun x hx => List.mem_cons_of_mem _ hx) (by rw [List.length_cons]; omega) (by rw [List.length_cons]; omega) (apV_gone0 V hk)
theorem ApI.chg (i : ApI w S h o H g v l (e :: m) A c V Ao co O W) (hk : e.k = 3) (p : AP w S h o H g V A3 c3 (O ++ if e.u ∈ V then [rF (posL V e.u) e.f] else []) W') : ApI w S h o H g v l m (offG 3 A c 1) (c - 1) V A3 c3 (O ++ if e.u ∈ V then [rF (posL V e.u) e.f] else []) W' := by
  obtain ⟨k1, k2, k3⟩ := cut1 i.sl (i.out.resolve_left (by simp)) i.cap
  have h2 := ite1_len (p := e.u ∈ V) (rF (posL V e.u) e.f)
  exact i.step p k1 (.inr k2) k3 (fun x hx => List.mem_cons_of_mem _ hx) (by rw [List.length_cons]; omega) (by rw [List.length_cons]; omega) (apV_chg0 V hk)
theorem ApI.arr (i : ApI w S h o H g v l (e :: m) A c V Ao co O W) (hk : e.k = 1) (hs : SlAt encEv 3 w A2 (arrV V (e :: m)).2) (ho : (arrV V (e :: m)).2 = [] ∨ Out S A2) (hc : (arrV V (e :: m)).2.length ≤ c2) (p : AP w S h o H g (arrV V (e :: m)).1 A3 c3 (O ++ toldV V (arrV V (e :: m)).1) W') :
    ApI w S h o H g v l (arrV V (e :: m)).2 A2 c2 (arrV V (e :: m)).1 A3 c3 (O ++ toldV V (arrV V (e :: m)).1) W' := by
  obtain ⟨h1, h2, h3, h4⟩ := arr_mono (e :: m) V
  have h5 := arr_less (v := V) (l := m) hk
  have h6 := toldV_len V (arrV V (e :: m)).1
  exact i.step p hs ho hc h3 h2 (by rw [List.length_cons]; omega) (apV_arr0 V hk)
end
end Go.Proofs.Ytefodmbaknedkaa
