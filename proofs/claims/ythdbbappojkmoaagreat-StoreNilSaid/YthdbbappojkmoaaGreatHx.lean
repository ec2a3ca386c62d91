/- A mailbox's contracts as the laws of layer 16 take them: UIDs, Next, New, Append, Change, Subscribe, Flush. -/
import Derived.Test.YthdbbappojkmoaaGreatHv
import Derived.Test.YthdbbappojkmoaaGreatHu
import Derived.Test.YthdbbappojkmoaaGreatHw
import Derived.Test.YthdbbappojkmoaaGreatHc
import Derived.Test.YthdbbappojkmoaaGreatEvSl
import Derived.WalkKit
import Derived.Lib.SlBytesConst
namespace Go.Proofs.YthdbbappojkmoaaGreat
end Go.Proofs.YthdbbappojkmoaaGreat

namespace Go.Proofs.YthdbbappojkmoaaGreat
open Go.RowKit

/-- A row of identifiers, of events, of bytes of the law's own. -/
def u32I (B : Nat) (A : Option Addr) (c : Nat) (l : List Nat) : Item := rowI B 27 1 A l.length c (flatL encU l)
def evI (B : Nat) (A : Option Addr) (c : Nat) (l : List EvI) : Item := rowI B 44 3 A l.length c (flatL encEv l)
section
variable {B g : Nat} {st : StP} {items : List Item} {w0 W W' : World}
theorem own_le {B B' : Nat} {T : TypeId} {sz n m c : Nat} {A : Option Addr} {xs : List Value} (h : W.ownsRow B T sz (.slice A n c) m xs) (hB : ∀ a, A = some a → B' ≤ a.block) : W.ownsRow B' T sz (.slice A n c) m xs := by
  refine ⟨h.1, h.2.imp id ?_⟩
  rintro ⟨k, cap, cur, e1, _, e3, e4⟩
  have hA' : A = some ⟨k, 0, none⟩ := by injection e1
  exact ⟨k, cap, cur, e1, hB _ hA', e3, e4⟩
theorem own_ge {B : Nat} {T : TypeId} {sz n m c : Nat} {A : Option Addr} {xs : List Value} (h : W.ownsRow B T sz (.slice A n c) m xs) : ∀ a, A = some a → B ≤ a.block := by
  intro a ha
  rcases h.2 with ⟨e, _⟩ | ⟨g, cap, cur, e, hb, _⟩
  · injection e with e
    rw [e] at ha
    cases ha
  · injection e with e
    rw [e] at ha
    cases ha
    exact hb
/-- What a mailbox shows now: its numbers are in bounds. -/
theorem OX.good (h : OX B (ST g st) items w0 W) : st.cap ≤ 4096 ∧ st.ms.length ≤ st.cap ∧ st.next ≤ 4294967295 ∧ ascP st ∧ ∀ m ∈ st.ms, 0 < m.u ∧ m.u < st.next ∧ m.f ≤ 31 ∧ m.b.length ≤ 65536 := by
  obtain ⟨S, t, _⟩ := h.tb
  exact t.good
theorem OX.bel (h : OX B (ST g st) items w0 W) (hb : Below W.heap.size W W') : OX B (ST g st) items w0 W' := h.below (ST.objK g st) hb
theorem OX.draw (h : OX B (ST g st) items w0 W) (n : Nat) : OX B (ST g st) items w0 (W.drewN n) := h.bel (belowDrawN (Below.refl _ _) n)
theorem OX.app (h : OX B (ST g st) items w0 W) (f : Nat) (hf : f ≤ 255) (A : Option Addr) (c : Nat) (b : List UInt8) (hS : ByAt W.heap.size W A c b) (hO : b = [] ∨ (∀ a, A = some a → a.block < B) ∨ ∃ it ∈ items, ∀ a, A = some a → it.blocks a.block) (hq : smallP st 50000) :
    Calls Tryz.prog 10 #[.pointer (some ⟨g, 0, none⟩), .int .u8 (f : Int), .slice A b.length c] W fun e w' => e = .returned (.tuple #[.int .u32 ((appP st f b).2.1 : Nat), .int .i64 (appP st f b).2.2]) ∧ OX B (ST g (appP st f b).1) items w0 w' := by
  obtain ⟨S, t, h2, h3⟩ := h.tb
  refine (sapp_any f hf A c b hS ?_ hq t).mono ?_
  · rcases hO with hO | hO | ⟨it, hi, ha⟩
    · exact .inl hO
    · refine .inr fun a ha e => ?_
      have := hO a ha
      have := h2 _ e
      omega
    · exact .inr fun a e e2 => h3 it hi _ (ha a e) e2
  · rintro e w' ⟨S', rfl, t', m, kk⟩
    exact ⟨rfl, h.call h2 h3 t' m kk [] (fun x hx => by cases hx)⟩
theorem OX.chg (h : OX B (ST g st) items w0 W) (by_ : Int) (hb : -9223372036854775808 ≤ by_ ∧ by_ ≤ 9223372036854775807) (u : Nat) (hu : u ≤ 4294967295) (mode : Int) (hm : -9223372036854775808 ≤ mode ∧ mode ≤ 9223372036854775807) (f : Nat) (hf : f ≤ 255) (hq : smallP st 50000) :
    Calls Tryz.prog 11 #[.pointer (some ⟨g, 0, none⟩), .int .i64 by_, .int .u32 (u : Int), .int .i64 mode, .int .u8 (f : Int)] W fun e w' => e = .returned (.tuple #[.int .u8 ((chgP st by_ u mode f).2.1 : Nat), .int .i64 (chgP st by_ u mode f).2.2]) ∧ OX B (ST g (chgP st by_ u mode f).1) items w0 w' := by
  obtain ⟨S, t, h2, h3⟩ := h.tb
  refine (schg_any by_ hb u hu mode hm f hf hq t).mono ?_
  rintro e w' ⟨S', rfl, t', m, kk⟩
  exact ⟨rfl, h.call h2 h3 t' m kk [] (fun x hx => by cases hx)⟩
theorem OX.rowU {S S' : Nat → Prop} {T' : (Nat → Prop) → World → Prop} {A : Option Addr} {c : Nat} {l : List Nat} (h : OX B (ST g st) items w0 W) (h2 : ∀ k, S k → B ≤ k) (h3 : ∀ it ∈ items, ∀ k, it.blocks k → ¬ S k) (t : T' S' W') (m : MoreQ S S' W) (kk : KeptO S W W')
    (ho : W'.ownsRow W.heap.size 27 1 (.slice A l.length c) l.length (flatL encU l)) (hA : ∀ a, A = some a → ¬ S' a.block) : OX B T' (u32I B A c l :: items) w0 W' := by
  refine h.call h2 h3 t m kk [u32I B A c l] (fun x hx => ?_)
  obtain rfl := List.mem_singleton.1 hx
  refine ⟨own_mono ho h.sz, ?_⟩
  rintro k ⟨a, ha, rfl⟩
  exact ⟨hA a ha, .inr (own_ge ho a ha)⟩
theorem OX.uids (h : OX B (ST g st) items w0 W) :
    Calls Tryz.prog 17 #[.pointer (some ⟨g, 0, none⟩)] W fun e w' => ∃ A c, e = .returned (.slice A (uidsP st).length c) ∧ OX B (ST g st) (u32I B A c (uidsP st) :: items) w0 w' := by
  obtain ⟨S, t, h2, h3⟩ := h.tb
  refine (suids_any t).mono ?_
  rintro e w' ⟨S', A, c, rfl, ho, hA, t', m, kk⟩
  exact ⟨A, c, rfl, h.rowU h2 h3 t' m kk ho hA⟩
theorem OX.subs (h : OX B (ST g st) items w0 W) (id : Int) (hi : -9223372036854775808 ≤ id ∧ id ≤ 9223372036854775807) (he : (subP st id).2 = 0) (hF : fewP st) :
    Calls Tryz.prog 9 #[.pointer (some ⟨g, 0, none⟩), .int .i64 id] W fun e w' => ∃ A c, e = .returned (.tuple #[.slice A (uidsP st).length c, .int .i64 0]) ∧ OX B (ST g (subP st id).1) (u32I B A c (uidsP st) :: items) w0 w' := by
  obtain ⟨S, t, h2, h3⟩ := h.tb
  refine (ssub_ok id hi he hF t).mono ?_
  rintro e w' ⟨S', A, c, rfl, ho, hA, t', m, kk⟩
  exact ⟨A, c, rfl, h.rowU h2 h3 t' m kk ho hA⟩
theorem OX.flushA (h : OX B (ST g st) items w0 W) (id : Int) (hi : -9223372036854775808 ≤ id ∧ id ≤ 9223372036854775807) (gone : Bool) (hq : smallP st 50000) :
    Calls Tryz.prog 13 #[.pointer (some ⟨g, 0, none⟩), .int .i64 id, .bool gone] W fun e w' => ∃ A c, e = .returned (.slice A (sqE (toldE gone (evsP st id))).length c) ∧ OX B (ST g (flushP st id gone)) (evI B A c (sqE (toldE gone (evsP st id))) :: items) w0 w' ∧ ∀ it ∈ items, ∀ k, (evI B A c (sqE (toldE gone (evsP st id)))).blocks k → ¬ it.blocks k := by
  obtain ⟨S, t, h2, h3⟩ := h.tb
  refine (sflush_any id hi gone hq t).mono ?_
  rintro e w' ⟨S', A, c, rfl, ho, hA, t', m, kk⟩
  refine ⟨A, c, rfl, h.call h2 h3 t' m kk [evI B A c _] (fun x hx => ?_), fun it hit k hk hk2 => ?_⟩
  · obtain rfl := List.mem_singleton.1 hx
    refine ⟨own_le ho fun a ha => (hA a ha).2.elim (h2 _) fun e => Nat.le_trans h.sz e, ?_⟩
    rintro k ⟨a, ha, rfl⟩
    exact hA a ha
  · obtain ⟨a, ha, rfl⟩ := hk
    rcases (hA a ha).2 with e | e
    · exact h3 it hit _ hk2 e
    · have := it.lt W (h.it it hit) _ hk2
      omega
theorem OX.flush (h : OX B (ST g st) items w0 W) (id : Int) (hi : -9223372036854775808 ≤ id ∧ id ≤ 9223372036854775807) (gone : Bool) (hq : smallP st 50000) :
    Calls Tryz.prog 13 #[.pointer (some ⟨g, 0, none⟩), .int .i64 id, .bool gone] W fun e w' => ∃ A c, e = .returned (.slice A (sqE (toldE gone (evsP st id))).length c) ∧ OX B (ST g (flushP st id gone)) (evI B A c (sqE (toldE gone (evsP st id))) :: items) w0 w' :=
  (h.flushA id hi gone hq).mono fun _ _ ⟨A, c, h1, h2, _⟩ => ⟨A, c, h1, h2⟩
theorem OX.nextS (h : OX B (ST g st) items w0 W) : Calls Tryz.prog 23 #[.pointer (some ⟨g, 0, none⟩)] W fun e w' => e = .returned (.int .u32 (st.next : Int)) ∧ OX B (ST g st) items w0 w' := by
  obtain ⟨S, t, h2, h3⟩ := h.tb
  refine (snext_any t).mono ?_
  rintro e w' ⟨S', rfl, t', m, kk⟩
  exact ⟨rfl, h.call h2 h3 t' m kk [] (fun x hx => by cases hx)⟩
/-- What a row of the law's reads as. -/
theorem OX.rdU {A : Option Addr} {c : Nat} {l : List Nat} (h : OX B (ST g st) items w0 W) (hi : u32I B A c l ∈ items) : SlAt encU 1 W A l := SlAt.of_own encU_len (h.it _ hi)
theorem OX.rdE {A : Option Addr} {c : Nat} {l : List EvI} (h : OX B (ST g st) items w0 W) (hi : evI B A c l ∈ items) : SlAt encEv 3 W A l := SlAt.of_own encEv_len (h.it _ hi)
theorem OX.drop {it : Item} (h : OX B (ST g st) (it :: items) w0 W) : OX B (ST g st) items w0 W := h.sub fun _ hx => List.mem_cons_of_mem _ hx
/-- A row that the law has made. -/
theorem OX.addE {A : Option Addr} {c : Nat} {l : List EvI} (h : OX B (ST g st) items w0 W) (hb : Below W.heap.size W W') (ho : W'.ownsRow W.heap.size 44 3 (.slice A l.length c) l.length (flatL encEv l)) : OX B (ST g st) (evI B A c l :: items) w0 W' := by
  refine h.add (ST.objK g st) hb [evI B A c l] (fun it hi => ?_)
  obtain rfl := List.mem_singleton.1 hi
  refine ⟨own_mono ho h.sz, ?_⟩
  rintro k ⟨a, ha, rfl⟩
  exact own_ge ho a ha
theorem OX.addU {A : Option Addr} {c : Nat} {l : List Nat} (h : OX B (ST g st) items w0 W) (hb : Below W.heap.size W W') (ho : W'.ownsRow W.heap.size 27 1 (.slice A l.length c) l.length (flatL encU l)) : OX B (ST g st) (u32I B A c l :: items) w0 W' := by
  refine h.add (ST.objK g st) hb [u32I B A c l] (fun it hi => ?_)
  obtain rfl := List.mem_singleton.1 hi
  refine ⟨own_mono ho h.sz, ?_⟩
  rintro k ⟨a, ha, rfl⟩
  exact own_ge ho a ha
end
/-- A new mailbox. -/
theorem sx_new (n cap nx : Nat) (hn : 1 ≤ n ∧ n ≤ 16) (hc : cap ≤ 4096) (hx : nx ≤ 4294967295) (w : World) :
    Calls Tryz.prog 8 #[.int .i64 (n : Int), .int .i64 (cap : Int), .int .u32 (nx : Int)] w fun e w' => ∃ g, e = .returned (.pointer (some ⟨g, 0, none⟩)) ∧ OX w.heap.size (ST g (newP n cap nx)) [] w w' := by
  refine (snew_any n cap nx hn hc hx w).mono ?_
  rintro e w' ⟨g, S, rfl, t, hs, hb⟩
  exact ⟨g, rfl, OX.start rfl t hs hb⟩
end Go.Proofs.YthdbbappojkmoaaGreat

namespace Go.Proofs.YthdbbappojkmoaaGreat
open Go.RowKit

theorem smallP_new (n cap nx : Nat) : smallP (newP n cap nx) 0 := fun i q e => by cases e
/-- A row of one byte. -/
theorem ByAt.lit1 {W : World} {b : Nat} {x : UInt8} {T : TypeId} {z : Nat × Nat} (h : W.heap[b]? = some (.cells #[.int .u8 (x.toNat : Int)] T z)) : ByAt W.heap.size W (some ⟨b, 0, none⟩) 1 [x] := by
  have hb := (Array.getElem?_eq_some_iff.1 h).1
  refine ⟨Nat.le_refl _, .inr ⟨b, 0, rfl, hb, hb, fun j hj => ?_⟩⟩
  rw [cell_of_row W b _ _ T z h]
  obtain rfl : j = 0 := by simpa using hj
  rfl
def exS2 : StP := (subP (newP 4 9 0) 1).1
def exS3 : StP := (appP exS2 0 [120]).1
def exE16 : List EvI := [⟨1, 1, 0⟩]
theorem exS3_ev : sqE (toldE true (evsP exS3 1)) = exE16 := by rfl
set_option maxRecDepth 100000 in
set_option maxHeartbeats 2000000 in
theorem alive16_any (w : World) : Calls Tryz.prog 7 #[] w fun e w' => e = .returned (.bool true) ∧ Below w.heap.size w w' := by
  have N := Lib.hid (sx_new 4 9 0 (by decide) (by decide) (by decide) w)
  go_enter Tryz.func7, Tryz.ntmps7
  go_wp2_with fail
  refine N.out.mono ?_
  rintro e w1 ⟨g, rfl, x1⟩
  have C1 := x1.subs 1 (by decide) (by rfl) (fewP.new _ _ _)
  rw [show uidsP (newP 4 9 0) = [] from rfl] at C1
  have C1 := Lib.hid C1
  clear x1 N
  go_wp2_with fail
  refine C1.out.mono ?_
  rintro e w2 ⟨A, c, rfl, x2⟩
  have CV := fun (w : World) (C : Array Value) (n c : Nat) => Lib.run_convert_bytes_const (P := Tryz.prog) w 33 5 C n c Tryz.underlying33 Tryz.underlying5
  have C2 := Lib.hid (fun W (hW : W = w2.alloc (.cells #[.int .u8 120] 5 (1, 2))) => (show Calls Tryz.prog 10 #[.pointer (some ⟨g, 0, none⟩), .int .u8 0, .slice (some ⟨w2.heap.size, 0, none⟩) 1 1] W fun e w' => e = .returned (.tuple #[.int .u32 1, .int .i64 0]) ∧ OX w.heap.size (ST g exS3) [] w w' from by
    subst hW
    exact (x2.add (ST.objK g _) (below_al w2 (.cells #[.int .u8 120] 5 (1, 2))) [boxI w2.heap.size (.cells #[.int .u8 120] 5 (1, 2))] (by
      intro it hi
      obtain rfl := List.mem_singleton.1 hi
      exact ⟨heap_alloc_new _ _, fun k hk => by cases hk; exact Nat.le_refl _⟩)).app 0 (by decide) (some ⟨w2.heap.size, 0, none⟩) 1 [120] (ByAt.lit1 (heap_alloc_new _ _)) (.inr (.inr ⟨_, List.mem_cons_self .., fun a ha => by cases ha; rfl⟩)) ((smallP_new _ _ _).sub 1 |>.mono (by decide)) |>.mono fun _ _ ⟨h1, h2⟩ => ⟨h1, h2.sub fun r hr => by cases hr⟩))
  clear C1 x2
  go_wp2_with fail
  refine (C2.out _ rfl).mono ?_
  rintro e w3 ⟨rfl, x4⟩
  have F2 := x4.flush 1 (by decide) true (((smallP_new _ _ _).sub 1 |>.app 0 [120]).mono (by decide))
  rw [exS3_ev] at F2
  have F2 := Lib.hid F2
  clear x4 C2
  go_wp2_with fail
  refine F2.out.mono ?_
  rintro e w4 ⟨A4, c4, rfl, x5⟩
  have EQ := Lib.hid (fun W (hW : W = w4.alloc (.cells #[.int .i64 1, .int .u32 1, .int .u8 0] 44)) => (show Calls Tryz.prog 26 #[.slice A4 1 c4, .slice (some ⟨w4.heap.size, 0, none⟩) 1 1] W fun e w' => e = .returned (.bool true) ∧ Below w.heap.size w w' from by
    subst hW
    have k := below_al w4 (.cells #[.int .i64 1, .int .u32 1, .int .u8 0] 44)
    refine (equalEv_any A4 (some ⟨w4.heap.size, 0, none⟩) c4 1 exE16 exE16 (by decide) (by decide) _ ((x5.bel k).rdE (List.mem_cons_self ..)) (slAt_lit (heap_alloc_new _ _) rfl)).mono ?_
    rintro e w' ⟨rfl, hb⟩
    exact ⟨rfl, ((x5.bel k).bel hb).be⟩))
  clear F2 x5
  go_wp2_with fail
  refine (EQ.out _ rfl).mono ?_
  rintro e w5 ⟨rfl, hb⟩
  have HB := Lib.hid hb
  clear hb EQ
  go_wp2_with fail
  go_ret
  exact ⟨rfl, HB.out⟩
end Go.Proofs.YthdbbappojkmoaaGreat
