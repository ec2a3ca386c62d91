/- The table of layer 13 where it lies: its stripes, their mutexes and maps, the bodies. No walk. -/
import Derived.Test.YthdbbappojkmoaaGreatHb
import Derived.Test.YthdbbappojkmoaaGreatHo
import Derived.Test.YthdbbappojkmoaaGreatHa
import Derived.RegionTactic
import Derived.BigRegion
import Derived.BigQuiet
import Derived.Deep.QuietTactic
import Derived.Deep.Cut
import Derived.Lib.SmallJoins
import Derived.Deep.CutBlock
namespace Go.Proofs.YthdbbappojkmoaaGreat
open Go.RowKit Go.Maps

section
variable {w w' : World} {b n c : Nat} {G G' : Nat → Option Value}
/-- All that a map is lies in its block. -/
theorem MapV.at_ (h : MapV w b n G c) (hb : w'.heap[b]? = w.heap[b]?) : MapV w' b n G c := by
  obtain ⟨D, ⟨es, clock, h1, h2⟩, h3⟩ := h
  exact ⟨D, ⟨es, clock, hb.trans h1, h2⟩, h3⟩
theorem MapV.tight (h : MapV w b n G c) : MapV w b c G c := by
  obtain ⟨D, ⟨es, clock, h1, F, hn, hD⟩, hc, hs⟩ := h
  refine ⟨D, ⟨es, clock, h1, F, ?_, hD⟩, hc, hs⟩
  have : Maps.size D = es.size := by
    rw [hD]
    show List.length (List.foldr _ _ _) = _
    rw [length_sorted]
    simp
  omega
theorem MapV.congr (h : MapV w b n G c) (e : ∀ u, u ≤ 4294967295 → G' u = G u) : MapV w b n G' c := by
  obtain ⟨D, h1, h2, h3⟩ := h
  refine ⟨D, h1, h2, fun u hu => ?_⟩
  rw [e u hu]
  exact h3 u hu
end

/-- A stripe in block s: its mutex in the state st, its map in block b. -/
structure Strp (s b : Nat) (st : Int) (w : World) : Prop where
  lt : s < w.heap.size
  st : w.cell? ⟨s, 0, none⟩ = some (.int .i32 st)
  mp : w.cell? ⟨s, 2, none⟩ = some (.map (some b))
  fr : w.frozen? ⟨s, 0, none⟩ = false
theorem Strp.at_ {s b : Nat} {st : Int} {w w' : World} (h : Strp s b st w) (hb : w'.heap[s]? = w.heap[s]?) : Strp s b st w' := by
  refine ⟨?_, (World.cell?_of_block (a := ⟨s, 0, none⟩) hb).trans h.st, (World.cell?_of_block (a := ⟨s, 2, none⟩) hb).trans h.mp, (World.frozen?_of_block (a := ⟨s, 0, none⟩) hb).trans h.fr⟩
  have := Array.getElem?_eq_some_iff.1 (hb.trans (Array.getElem?_eq_getElem h.lt))
  exact this.1
theorem Strp.set {s b : Nat} {st : Int} {w : World} (h : Strp s b st w) (x : Int) : Strp s b x (w.setCell ⟨s, 0, none⟩ (.int .i32 x)) :=
  ⟨by simpa using h.lt, World.cell?_setCell_same _ _ _ h.st, (World.cell?_setCell_other _ ⟨s, 0, none⟩ ⟨s, 2, none⟩ _ (by simp)).trans h.mp, by simpa using h.fr⟩
theorem Strp.kept {s b : Nat} {st : Int} {w w' : World} {T : Nat → Prop} (h : Strp s b st w) (hk : KeptO T w w') (hT : ¬ T s) : Strp s b st w' := h.at_ (hk.block s h.lt hT)
theorem KeptO.set (w : World) (s o : Nat) (v : Value) : KeptO (fun k => k = s) w (w.setCell ⟨s, o, none⟩ v) := KeptO.of_grown (grown_setCell w s o v) (fun r hr => by cases hr; rfl)

/-- What of a message counts. -/
def keyM (m : MI) : Nat × Nat × List UInt8 := (m.u, m.f, m.b)
/-- Where a table lies: the row of its stripes, their blocks, their maps' blocks. -/
structure TR where
  r : Nat
  cap : Nat
  ss : Nat → Nat
  bb : Nat → Nat
/-- A block that belongs to the table's structure. -/
def TR.K (R : TR) (g n k : Nat) : Prop := k = g ∨ k = R.r ∨ ∃ i, i < n ∧ (k = R.ss i ∨ k = R.bb i)
/-- What the map of stripe i holds. -/
def GX (X : Nat → Option MI) (n i u : Nat) : Option Value := if u % n = i then (X u).map msV else none

structure TbX (R : TR) (g n : Nat) (S : Nat → Prop) (X : Nat → Option MI) (w : World) : Prop where
  hn : 1 ≤ n ∧ n ≤ 16
  lt : ∀ k, S k → k < w.heap.size
  K : ∀ k, R.K g n k → S k
  tc : w.cell? ⟨g, 0, none⟩ = some (.slice (some ⟨R.r, 0, none⟩) n R.cap)
  row : ∀ i, i < n → w.cell? ⟨R.r, i, none⟩ = some (.pointer (some ⟨R.ss i, 0, none⟩))
  gs : ∀ i, i < n → g ≠ R.ss i ∧ g ≠ R.bb i ∧ R.r ≠ R.ss i ∧ R.r ≠ R.bb i
  sb : ∀ i j, i < n → j < n → R.ss i ≠ R.bb j
  ss : ∀ i j, i < n → j < n → R.ss i = R.ss j → i = j
  bb : ∀ i j, i < n → j < n → R.bb i = R.bb j → i = j
  st : ∀ i, i < n → Strp (R.ss i) (R.bb i) 0 w
  mp : ∀ i, i < n → ∃ c, MapV w (R.bb i) c (GX X n i) c
  bd : ∀ u x, X u = some x → x.u = u ∧ ByAt w.heap.size w x.A x.k x.b ∧ ∀ a, x.A = some a → S a.block ∧ ¬ R.K g n a.block
section
variable {R : TR} {g n : Nat} {S S' T : Nat → Prop} {X X' : Nat → Option MI} {w w' : World}
theorem TbX.Kg (h : TbX R g n S X w) : S g := h.K _ (.inl rfl)
theorem TbX.Kr (h : TbX R g n S X w) : S R.r := h.K _ (.inr (.inl rfl))
theorem TbX.Ks (h : TbX R g n S X w) {i : Nat} (hi : i < n) : S (R.ss i) := h.K _ (.inr (.inr ⟨i, hi, .inl rfl⟩))
theorem TbX.Kb (h : TbX R g n S X w) {i : Nat} (hi : i < n) : S (R.bb i) := h.K _ (.inr (.inr ⟨i, hi, .inr rfl⟩))
theorem ByAt.keptO {A : Option Addr} {k : Nat} {l : List UInt8} (h : ByAt w.heap.size w A k l) (hk : KeptO T w w') (ho : Out T A) : ByAt w'.heap.size w' A k l := ByAt.of_sl (h.sl.keptO ho hk) h.le
/-- One stripe changed: its map, and the messages in it. -/
theorem TbX.change (i : Nat) (hi : i < n) (h : TbX R g n S X w) (hk : KeptO T w w') (hT : ∀ k, T k → S k → k = R.ss i ∨ k = R.bb i)
    (hst : Strp (R.ss i) (R.bb i) 0 w') (hm : ∃ c, MapV w' (R.bb i) c (GX X' n i) c) (hX : ∀ u, u % n ≠ i → X' u = X u)
    (hS : ∀ k, S k → S' k) (hlt : ∀ k, S' k → k < w'.heap.size)
    (hb : ∀ u x, X' u = some x → x.u = u ∧ ByAt w'.heap.size w' x.A x.k x.b ∧ ∀ a, x.A = some a → S' a.block ∧ ¬ R.K g n a.block) : TbX R g n S' X' w' := by
  have hg : ¬ T g := fun e => (hT _ e h.Kg).elim (h.gs i hi).1 (h.gs i hi).2.1
  have hr : ¬ T R.r := fun e => (hT _ e h.Kr).elim (h.gs i hi).2.2.1 (h.gs i hi).2.2.2
  refine ⟨h.hn, hlt, fun k hk => hS k (h.K k hk), hk.cell (a := ⟨g, 0, none⟩) (h.lt _ h.Kg) h.tc hg, fun j hj => hk.cell (a := ⟨R.r, j, none⟩) (h.lt _ h.Kr) (h.row j hj) hr, h.gs, h.sb, h.ss, h.bb, fun j hj => ?_, fun j hj => ?_, hb⟩
  · by_cases e : j = i
    · subst e; exact hst
    · refine (h.st j hj).kept hk fun e2 => ?_
      rcases hT _ e2 (h.Ks hj) with e3 | e3
      · exact e (h.ss _ _ hj hi e3)
      · exact h.sb _ _ hj hi e3
  · by_cases e : j = i
    · subst e; exact hm
    · obtain ⟨c, hc⟩ := h.mp j hj
      refine ⟨c, (hc.at_ (hk.block _ hc.lt fun e2 => ?_)).congr fun u _ => ?_⟩
      · rcases hT _ e2 (h.Kb hj) with e3 | e3
        · exact h.sb _ _ hi hj e3.symm
        · exact e (h.bb _ _ hj hi e3)
      · unfold GX
        by_cases e2 : u % n = j
        · rw [if_pos e2, if_pos e2, hX u (by omega)]
        · rw [if_neg e2, if_neg e2]
/-- A body stays where it lies. -/
theorem TbX.body (h : TbX R g n S X w) (hk : KeptO T w w') (hT : ∀ k, T k → S k → R.K g n k) {u : Nat} {x : MI} (hx : X u = some x) : x.u = u ∧ ByAt w'.heap.size w' x.A x.k x.b ∧ ∀ a, x.A = some a → S a.block ∧ ¬ R.K g n a.block := by
  obtain ⟨h1, h2, h3⟩ := h.bd u x hx
  exact ⟨h1, h2.keptO hk (fun a ha e => (h3 a ha).2 (hT _ e (h3 a ha).1)), h3⟩
/-- Nothing of the table changed. -/
theorem TbX.kept (h : TbX R g n S X w) (hk : KeptO T w w') (hT : ∀ k, S k → ¬ T k) : TbX R g n S X w' := by
  have hKT : ∀ k, T k → S k → R.K g n k := fun k h1 h2 => absurd h1 (hT k h2)
  have h0 : 0 < n := h.hn.1
  obtain ⟨c, hc⟩ := h.mp 0 h0
  exact h.change 0 h0 hk (fun k h1 h2 => absurd h1 (hT k h2)) ((h.st 0 h0).kept hk (hT _ (h.Ks h0))) ⟨c, hc.at_ (hk.block _ hc.lt (hT _ (h.Kb h0)))⟩ (fun _ _ => rfl) (fun _ => id) (fun k hk2 => Nat.lt_of_lt_of_le (h.lt k hk2) hk.size) fun u x hx => h.body hk hKT hx
theorem TbX.below (h : TbX R g n S X w) (hb : Below w.heap.size w w') : TbX R g n S X w' := h.kept (T := fun _ => False) ((KeptO.of_below (S := fun _ => False) hb)) fun _ _ => id
/-- What the messages count for. -/
def Like (X : Nat → Option MI) (L : List MI) : Prop := ∀ u, (X u).map keyM = (getM L u).map keyM
theorem Like.isSome {L : List MI} (h : Like X L) (u : Nat) : (X u).isSome = (getM L u).isSome := by
  have := congrArg Option.isSome (h u)
  simpa using this
/-- A map has as many entries as its stripe has messages. -/
theorem TbX.cnt {L : List MI} (h : TbX R g n S X w) (hX : Like X L) (hG : GoodM L) {i : Nat} (hi : i < n) (hi2 : i < (szM L n).length) : MapV w (R.bb i) ((szM L n)[i]) (GX X n i) ((szM L n)[i]) := by
  obtain ⟨c, hc⟩ := h.mp i hi
  obtain ⟨K, h1, h2, h3⟩ := hc.keys
  have e : (szM L n)[i] = c := by
    rw [← h2]
    refine szM_keys hG n hi2 h1 fun u => ?_
    rw [h3]
    unfold GX
    by_cases hu : u % n = i
    · rw [if_pos hu, Option.isSome_map, hX.isSome]
      refine ⟨fun h => ⟨hu, h.2⟩, fun h => ⟨?_, h.2⟩⟩
      obtain ⟨m, hm⟩ := Option.isSome_iff_exists.1 h.2
      have := hG.ok m (getM_mem hm)
      have := getM_u hm
      omega
    · rw [if_neg hu]
      simp [hu]
  rw [e]
  exact hc
/-- The table in block g: n stripes, its blocks S, it holds the list L. -/
def Tb (g n : Nat) (S : Nat → Prop) (L : List MI) (w : World) : Prop := GoodM L ∧ ∃ R X, TbX R g n S X w ∧ Like X L
/-- What behind a call is known of the table's blocks. -/
def More (S S' : Nat → Prop) (w : World) : Prop := (∀ k, S k → S' k) ∧ ∀ k, S' k → S k ∨ w.heap.size ≤ k
theorem More.refl (S : Nat → Prop) (w : World) : More S S w := ⟨fun _ => id, fun _ => .inl⟩
section
variable {L : List MI}
theorem Tb.good (h : Tb g n S L w) : GoodM L := h.1
theorem Tb.lt (h : Tb g n S L w) : ∀ k, S k → k < w.heap.size := by
  obtain ⟨_, R, X, h, _⟩ := h
  exact h.lt
theorem Tb.size (h : Tb g n S L w) : 1 ≤ n ∧ n ≤ 16 := by
  obtain ⟨_, R, X, h, _⟩ := h
  exact h.hn
theorem Tb.kept (h : Tb g n S L w) (hk : KeptO S' w w') (hS : ∀ k, S k → ¬ S' k) : Tb g n S L w' := by
  obtain ⟨h0, R, X, h, h2⟩ := h
  exact ⟨h0, R, X, h.kept hk hS, h2⟩
end
end
end Go.Proofs.YthdbbappojkmoaaGreat

namespace Go.Proofs.YthdbbappojkmoaaGreat
open Go.RowKit

set_option maxRecDepth 100000 in
set_option maxHeartbeats 1000000 in
/-- A stripe locked, a function called with it, the stripe unlocked. -/
theorem locked_any (s b F : Nat) (cs : Array Value) (w : World) (h : Strp s b 0 w) (henter : ∀ args w, (callFunc F args).run Tryz.prog w = .ok (.enter F args) w) (Q : World → Prop)
    (hact : Calls Tryz.prog F (#[.pointer (some ⟨s, 0, none⟩)] ++ cs) (w.setCell ⟨s, 0, none⟩ (.int .i32 1)) fun e w' => e = .returned (.tuple #[]) ∧ Strp s b 1 w' ∧ Q (w'.setCell ⟨s, 0, none⟩ (.int .i32 0))) :
    Calls Tryz.prog 84 #[.pointer (some ⟨s, 0, none⟩), .func (.func F) #[] cs] w fun e w' => e = .returned (.tuple #[]) ∧ Q w' := by
  have UL := Lib.hid (fun u W h1 h2 => unlock_deferred ⟨s, 0, none⟩ u W h1 h2)
  have LK := Lib.hid (lock_free ⟨s, 0, none⟩ w h.st h.fr)
  have HA := Lib.hid hact
  clear hact h
  go_enter_defers Tryz.func84, Tryz.ntmps84
  go_wp2_with fail
  refine LK.out.mono ?_
  rintro e w2 ⟨rfl, rfl⟩
  generalize w.setCell ⟨s, 0, none⟩ (.int .i32 1) = w1 at *
  go_wp2_with fail
  refine HA.out.mono ?_
  rintro e w3 ⟨rfl, h3, h5⟩
  go_wp2_with fail
  refine leaves_cons (f := 103) (args := #[.pointer (some ⟨s, 0, none⟩)]) (by simp) (by simp [go_sem]) ?_
  refine (UL.out .returning _ h3.st h3.fr).mono ?_
  rintro e u' w'' ⟨rfl, rfl, rfl⟩
  simp [Leaves, settle, results, Tryz.results84]
  exact h5

section
variable {R : TR} {g n : Nat} {S : Nat → Prop} {X : Nat → Option MI} {w : World}
set_option maxRecDepth 100000 in
theorem tof_eq (h : TbX R g n S X w) (u : Nat) (hu : u ≤ 4294967295) : Calls Tryz.prog 83 #[.pointer (some ⟨g, 0, none⟩), .int .u32 u] w fun e w' => e = .returned (.int .i64 ((u % n : Nat) : Int)) ∧ w = w' := by
  have hc := h.tc
  obtain ⟨hn1, hn2⟩ := h.hn
  have HR := Lib.hid (show wrap64 ((u : Int) % (n : Int)) = ((u % n : Nat) : Int) by
    rw [← Int.natCast_emod]
    have := Nat.mod_le u n
    unfold wrap64
    omega)
  clear h
  go_enter Tryz.func83, Tryz.ntmps83
  go_wp2_with fail
  go_ret
  exact ⟨ret_int HR.out, rfl⟩
set_option maxRecDepth 100000 in
set_option maxHeartbeats 2000000 in
/-- A function called with the stripe of an identifier, which is locked. -/
theorem in_any (F : Nat) (cs : Array Value) (h : TbX R g n S X w) (u i : Nat) (hu : u ≤ 4294967295) (hi : u % n = i) (henter : ∀ args w, (callFunc F args).run Tryz.prog w = .ok (.enter F args) w) (Q : World → Prop)
    (hact : ∀ W, Below w.heap.size w W → Calls Tryz.prog F (#[.pointer (some ⟨R.ss i, 0, none⟩)] ++ cs) (W.setCell ⟨R.ss i, 0, none⟩ (.int .i32 1)) fun e w' => e = .returned (.tuple #[]) ∧ Strp (R.ss i) (R.bb i) 1 w' ∧ Q (w'.setCell ⟨R.ss i, 0, none⟩ (.int .i32 0))) :
    Calls Tryz.prog 64 #[.pointer (some ⟨g, 0, none⟩), .int .u32 u, .func (.func F) #[] cs] w fun e w' => e = .returned (.tuple #[]) ∧ Q w' := by
  have hin : i < n := by rw [← hi]; exact Nat.mod_lt _ h.hn.1
  have hc := h.tc
  have hr := h.row i hin
  have hk0 : (0 : Int) ≤ (i : Int) := by omega
  have hk1 : (i : Int) < (n : Int) := by omega
  have hlg := h.lt _ h.Kg
  have hlr := h.lt _ h.Kr
  have OF := Lib.hid (fun W (hb : Below w.heap.size w W) => by have := tof_eq (h.below hb) u hu; rw [hi] at this; exact this)
  have LK := Lib.hid (fun W (hb : Below w.heap.size w W) => locked_any (R.ss i) (R.bb i) F cs W ((h.below hb).st i hin) henter Q (hact W hb))
  clear hact henter h hi
  generalize R.ss i = s at *
  generalize R.bb i = b at *
  generalize R.r = r at *
  generalize R.cap = cap at *
  go_enter Tryz.func64, Tryz.ntmps64
  go_upto_region 1 with (fail)
  go_region_with (first
    | (go_at_call 83; refine (OF.out _ (by repeat (first | assumption | exact Below.refl _ _ | refine belowDrawN ?_ _ | refine belowDraw ?_))).mono ?_; rintro e w3 ⟨rfl, rfl⟩)
    | (go_at_call 84; refine (LK.out _ (by repeat (first | assumption | exact Below.refl _ _ | refine belowDrawN ?_ _ | refine belowDraw ?_))).mono ?_; rintro e w4 ⟨rfl, hQ⟩))
  all_goals
    go_wp2_with fail
    go_end0
    exact ⟨rfl, hQ⟩
end
end Go.Proofs.YthdbbappojkmoaaGreat

namespace Go.Proofs.YthdbbappojkmoaaGreat
open Go.RowKit Go.Maps

/-- A variable in a block of its own. -/
def Vb (W : World) (b : Nat) (T : TypeId) (v : Value) : Prop := W.heap[b]? = some (.cells #[v] T)
section
variable {W W' : World} {b : Nat} {T : TypeId} {v : Value}
theorem Vb.lt (h : Vb W b T v) : b < W.heap.size := (Array.getElem?_eq_some_iff.1 h).1
theorem Vb.cell (h : Vb W b T v) : W.cell? ⟨b, 0, none⟩ = some v := cell_of_row _ _ 0 _ _ _ h
theorem Vb.fz (h : Vb W b T v) : W.frozen? ⟨b, 0, none⟩ = false := by
  unfold Vb at h
  simp [World.frozen?, h]
theorem Vb.kept {S : Nat → Prop} (h : Vb W b T v) (hk : KeptO S W W') (hS : ¬ S b) : Vb W' b T v := hk.heap h hS
theorem Vb.new (w : World) (T : TypeId) (v : Value) : Vb (w.alloc (.cells #[v] T)) w.heap.size T v := heap_alloc_new _ _
theorem Vb.below (h : Vb W b T v) (hb : Below W.heap.size W W') : Vb W' b T v := (hb.block b h.lt).trans h
end
theorem Vb.set {W : World} {b : Nat} {T : TypeId} {v : Value} (h : Vb W b T v) (u : Value) : Vb (W.setCell ⟨b, 0, none⟩ u) b T u := by
  have := Joins.block_setCell (i := 0) h u
  simp at this
  exact this
/-- A message stored whole. -/
def st3 (W : World) (b : Nat) (y : MI) : World := ((W.setCell ⟨b, 0, none⟩ (.int .u32 (y.u : Int))).setCell ⟨b, 1, none⟩ (.int .u8 (y.f : Int))).setCell ⟨b, 2, none⟩ (.slice y.A y.b.length y.k)
theorem M3.st3 {W : World} {b : Nat} {m : MI} (h : M3 W b m) (y : MI) : M3 (st3 W b y) b y := by
  have h1 := Joins.block_setCell (i := 0) h (.int .u32 (y.u : Int))
  have h2 := Joins.block_setCell (i := 1) h1 (.int .u8 (y.f : Int))
  have h3 := Joins.block_setCell (i := 2) h2 (.slice y.A y.b.length y.k)
  simp at h3
  exact h3
theorem M3.st2 {W : World} {b : Nat} {m : MI} (h : M3 W b m) (A : Option Addr) (k : Nat) (l : List UInt8) (n : Nat) (hn : l.length = n) : M3 (W.setCell ⟨b, 2, none⟩ (.slice A n k)) b { m with A := A, k := k, b := l } := by
  subst hn
  have h3 := Joins.block_setCell (i := 2) h (.slice A l.length k)
  simp at h3
  exact h3
theorem st3_kept (W : World) (b : Nat) (y : MI) : KeptO (fun k => k = b) W (st3 W b y) := KeptO.of_grown (grown_set (grown_set (grown_setCell W b 0 _) 1 _) 2 _) (fun r hr => by cases hr; rfl)
theorem KeptO.drew {S : Nat → Prop} {W W' : World} (h : KeptO S W W') : KeptO S W W'.drew := ⟨h.os, h.tape, h.output, h.size, h.block⟩
theorem M3.kept {S : Nat → Prop} {W W' : World} {b : Nat} {m : MI} (h : M3 W b m) (hk : KeptO S W W') (hS : ¬ S b) : M3 W' b m := hk.heap h hS
theorem own_keptO {S : Nat → Prop} {base n : Nat} {T : TypeId} {v : Value} {xs : List Value} {W W' : World} (h : W.ownsRow base T 1 v n xs) (hk : KeptO S W W') (hS : ∀ k, S k → k < base) : W'.ownsRow base T 1 v n xs := by
  refine ⟨h.1, ?_⟩
  rcases h.2 with h1 | ⟨g, cap, cur, h1, h2, h3, h4⟩
  · exact .inl h1
  · exact .inr ⟨g, cap, cur, h1, h2, hk.heap h3 (fun e => by have := hS _ e; omega), h4⟩
theorem M3.fz {W : World} {b : Nat} {m : MI} (h : M3 W b m) (o : Nat) : W.frozen? ⟨b, o, none⟩ = false := by
  unfold M3 at h
  simp [World.frozen?, h]
def msZ : MI := ⟨0, 0, none, 0, []⟩
theorem zeroM (w : World) : (zeroValue 52).run Tryz.prog w = .ok (msV msZ) w := by kernel_rfl
theorem msV_getD (x : Option MI) : (x.map msV).getD (msV msZ) = msV (x.getD msZ) := by cases x <;> rfl

/-- A variable, two messages, a variable: four new blocks. -/
theorem four_new (w : World) (v0 v3 : Value) (T0 T3 : TypeId) (W : World) (hW : W = ((((w.alloc (.cells #[v0] T0)).alloc (.cells #[.int .u32 0, .int .u8 0, .slice none 0 0] 52)).alloc (.cells #[.int .u32 0, .int .u8 0, .slice none 0 0] 52)).alloc (.cells #[v3] T3))) :
    Vb W w.heap.size T0 v0 ∧ M3 W (w.heap.size + 1) msZ ∧ M3 W (w.heap.size + 1 + 1) msZ ∧ Vb W (w.heap.size + 1 + 1 + 1) T3 v3 ∧ Below w.heap.size w W ∧ W.heap.size = w.heap.size + 4 := by
  subst hW
  have b0 := below_al w (.cells #[v0] T0)
  have z0 : (w.alloc (.cells #[v0] T0)).heap.size = w.heap.size + 1 := by simp
  have x0 := Vb.new w T0 v0
  generalize w.alloc (.cells #[v0] T0) = w1 at *
  have b1 := below_al w1 (.cells #[.int .u32 0, .int .u8 0, .slice none 0 0] 52)
  have z1 : (w1.alloc (.cells #[.int .u32 0, .int .u8 0, .slice none 0 0] 52)).heap.size = w1.heap.size + 1 := by simp
  have x1 : M3 (w1.alloc (.cells #[.int .u32 0, .int .u8 0, .slice none 0 0] 52)) (w.heap.size + 1) msZ := M3.new (m := msZ) z0.symm
  generalize w1.alloc (.cells #[.int .u32 0, .int .u8 0, .slice none 0 0] 52) = w2 at *
  have b2 := below_al w2 (.cells #[.int .u32 0, .int .u8 0, .slice none 0 0] 52)
  have z2 : (w2.alloc (.cells #[.int .u32 0, .int .u8 0, .slice none 0 0] 52)).heap.size = w2.heap.size + 1 := by simp
  have x2 : M3 (w2.alloc (.cells #[.int .u32 0, .int .u8 0, .slice none 0 0] 52)) (w.heap.size + 1 + 1) msZ := M3.new (m := msZ) (by omega)
  generalize w2.alloc (.cells #[.int .u32 0, .int .u8 0, .slice none 0 0] 52) = w3 at *
  have b3 := below_al w3 (.cells #[v3] T3)
  have z3 : (w3.alloc (.cells #[v3] T3)).heap.size = w3.heap.size + 1 := by simp
  have x3 := Vb.new w3 T3 v3
  rw [show w3.heap.size = w.heap.size + 1 + 1 + 1 by omega] at x3
  generalize w3.alloc (.cells #[v3] T3) = w4 at *
  exact ⟨((x0.below b1).below b2).below b3, (x1.below b2).below b3, x2.below b3, x3, below_next b0 (below_next b1 (below_next b2 b3)), by omega⟩
section
variable {R : TR} {g n : Nat} {S S' : Nat → Prop} {X : Nat → Option MI} {w : World}
/-- A closure called with the stripe of an identifier: it writes the blocks T1 alone (the stripe's map may be among them), and leaves P, which the lock does not touch. -/
theorem in_fr (F : Nat) (cs : Array Value) (h : TbX R g n S X w) (u i : Nat) (hu : u ≤ 4294967295) (hi : u % n = i) (henter : ∀ args w, (callFunc F args).run Tryz.prog w = .ok (.enter F args) w) (T1 : Nat → Prop) (hT1 : ¬ T1 (R.ss i)) (P : World → Prop)
    (hact : ∀ W, KeptO (fun k => k = R.ss i) w W → Strp (R.ss i) (R.bb i) 1 W → Calls Tryz.prog F (#[.pointer (some ⟨R.ss i, 0, none⟩)] ++ cs) W fun e w' => e = .returned (.tuple #[]) ∧ KeptO T1 W w' ∧ P w')
    (hP : ∀ W, P W → R.ss i < W.heap.size → P (W.setCell ⟨R.ss i, 0, none⟩ (.int .i32 0))) :
    Calls Tryz.prog 64 #[.pointer (some ⟨g, 0, none⟩), .int .u32 u, .func (.func F) #[] cs] w fun e w' => e = .returned (.tuple #[]) ∧ P w' ∧ Strp (R.ss i) (R.bb i) 0 w' ∧ KeptO (fun k => T1 k ∨ k = R.ss i) w w' := by
  have hin : i < n := by rw [← hi]; exact Nat.mod_lt _ h.hn.1
  refine in_any F cs h u i hu hi henter (fun w' => P w' ∧ Strp (R.ss i) (R.bb i) 0 w' ∧ KeptO (fun k => T1 k ∨ k = R.ss i) w w') fun W hb => ?_
  have h0 := (h.below hb).st i hin
  have k0 : KeptO (fun k => k = R.ss i) w (W.setCell ⟨R.ss i, 0, none⟩ (.int .i32 1)) := (KeptO.of_below hb).trans (KeptO.set W (R.ss i) 0 _) fun _ e => .inl e
  refine (hact _ k0 (h0.set 1)).mono ?_
  rintro e w' ⟨rfl, hk, hp⟩
  have h1 := (h0.set 1).kept hk hT1
  refine ⟨rfl, h1, hP _ hp h1.lt, h1.set 0, ?_⟩
  exact ((k0.mono fun k e => .inr e).trans (hk.mono fun k e => .inl e) fun _ e => .inl e).trans (KeptO.set _ (R.ss i) 0 _) fun _ e => .inl (.inr e)
end
end Go.Proofs.YthdbbappojkmoaaGreat

namespace Go.Proofs.YthdbbappojkmoaaGreat
open Go.RowKit Go.Maps

set_option maxRecDepth 100000 in
set_option maxHeartbeats 2000000 in
theorem get1_any (s b bu bm bo c u : Nat) (hu : u ≤ 4294967295) (G : Nat → Option Value) (x : Option MI) (hG : G u = x.map msV) (W : World) (hs : Strp s b 1 W)
    (cu : W.cell? ⟨bu, 0, none⟩ = some (.int .u32 (u : Int))) (cm : M3 W bm msZ) (co : Vb W bo 4 (.bool false)) (h1 : bm ≠ bo) (h2 : bu ≠ bm) (h3 : s ≠ bm) (h4 : s ≠ bo) (h5 : bu ≠ bo)
    (hM : MapV W b c G c) (hx : ByAt W.heap.size W (x.getD msZ).A (x.getD msZ).k (x.getD msZ).b) (hl : (x.getD msZ).b.length ≤ 65536) (ho : ∀ a, (x.getD msZ).A = some a → a.block ≠ bm ∧ a.block ≠ bo) :
    Calls Tryz.prog 65 #[.pointer (some ⟨s, 0, none⟩), .pointer (some ⟨bu, 0, none⟩), .pointer (some ⟨bm, 0, none⟩), .pointer (some ⟨bo, 0, none⟩)] W fun e w' => e = .returned (.tuple #[]) ∧
      ∃ y, keyM y = keyM (x.getD msZ) ∧ M3 w' bm y ∧ Vb w' bo 4 (.bool x.isSome) ∧ w'.ownsRow W.heap.size 5 1 (.slice y.A y.b.length y.k) y.b.length (flatL encB y.b) ∧ KeptO (fun k => k = bm ∨ k = bo) W w' := by
  have hlk := Lib.hid (fun k => (show MapV (W.drewN k) b c G c from hM).look (t := 88) Tryz.underlying88 (zeroM _) hu)
  have hl0 : (Instr.lookup 88 (.map (some b)) (.int .u32 (u : Int)) true).run Tryz.prog W.drew = .ok (.tuple #[msV (x.getD msZ), .bool x.isSome]) W.drew := by
    have := hlk.out 1
    rw [hG, msV_getD, Option.isSome_map] at this
    exact this
  have c2 := hs.mp
  have e0 := cm.fz 0
  have e1 := cm.fz 1
  have e2 := cm.fz 2
  have co0 := co.cell
  have co1 := co.fz
  obtain ⟨d0, d1, d2⟩ := cm.cells
  clear hlk hM
  generalize x.getD msZ = y at *
  generalize x.isSome = ok at *
  unfold msV at hl0
  have K1 : KeptO (fun k => k = bm ∨ k = bo) W ((st3 W bm y).setCell ⟨bo, 0, none⟩ (.bool ok)).drew :=
    (((st3_kept W bm y).mono (S' := fun k => k = bm ∨ k = bo) fun k e => .inl e).trans ((KeptO.set _ bo 0 _).mono (S' := fun k => k = bm ∨ k = bo) fun k e => .inr e) fun _ e => .inl e).drew
  have M1 : M3 ((st3 W bm y).setCell ⟨bo, 0, none⟩ (.bool ok)).drew bm y := ((cm.st3 y).kept (KeptO.set _ bo 0 _) h1).draw
  have O1 : Vb ((st3 W bm y).setCell ⟨bo, 0, none⟩ (.bool ok)).drew bo 4 (.bool ok) := ((co.kept (st3_kept W bm y) fun e => h1 e.symm).set _)
  have B1 := hx.keptO K1 (fun a ha e => e.elim (ho a ha).1 (ho a ha).2)
  unfold st3 at K1 M1 O1 B1
  go_enter Tryz.func65, Tryz.ntmps65
  go_upto_region 0 with (fail)
  go_region
  clear hl0 c2 e0 e1 e2 co0 co1 d0 d1 d2 cu cm co hs hx ho hG
  generalize ((((W.setCell ⟨bm, 0, none⟩ (Value.int IntKind.u32 ↑y.u)).setCell ⟨bm, 1, none⟩ (Value.int IntKind.u8 ↑y.f)).setCell ⟨bm, 2, none⟩ (Value.slice y.A y.b.length y.k)).setCell ⟨bo, 0, none⟩ (Value.bool ok)).drew = W1 at *
  have CL := Lib.hid (bclone_any y.A y.k y.b.length y.b rfl (by omega) W1 B1)
  obtain ⟨d0, d1, d2⟩ := M1.cells
  have HK := Lib.hid K1
  have HM := Lib.hid M1
  have HO := Lib.hid O1
  have hlt := M1.lt
  have hsz := K1.size
  clear K1 M1 O1 B1 hl d0 d1
  obtain ⟨yu, yf, yA, yk, yb⟩ := y
  simp only at d2 CL
  have hn := Lib.hid (rfl : yb.length = yb.length)
  generalize hq : yb.length = q at d2 CL
  have HQ := Lib.hid hq
  clear hq
  go_wp2_with fail
  refine CL.out.mono ?_
  rintro e w2 ⟨A', k', rfl, hown, hb⟩
  have d3 := (hb.cell (p := ⟨bm, 2, none⟩) HM.out.lt).trans d2
  have HM2 := Lib.hid (HM.out.below hb)
  have e3 := HM2.out.fz 2
  have HO2 := Lib.hid (HO.out.below hb)
  have HW := Lib.hid hown
  have HK2 := Lib.hid (HK.out.then_below hb)
  clear hown hb CL HM HO HK d2
  go_wp2_with fail
  go_end0
  refine ⟨rfl, ⟨yu, yf, A', k', yb⟩, rfl, HM2.out.st2 A' k' yb q HQ.out, ?_, ?_, ?_⟩
  · exact HO2.out.kept (KeptO.set _ bm 2 _) fun e => h1 e.symm
  · subst q
    exact own_mono (own_keptO HW.out (KeptO.set _ bm 2 _) fun k e => by subst e; exact hlt) hsz
  · exact HK2.out.trans ((KeptO.set _ bm 2 _).mono (S' := fun k => k = bm ∨ k = bo) fun k e => .inl e) fun _ e => .inl e

section
variable {R : TR} {g n : Nat} {S S' : Nat → Prop} {X : Nat → Option MI} {w : World}
theorem getD_body (h : TbX R g n S X w) (u : Nat) : ByAt w.heap.size w ((X u).getD msZ).A ((X u).getD msZ).k ((X u).getD msZ).b ∧ ∀ a, ((X u).getD msZ).A = some a → S a.block ∧ ¬ R.K g n a.block := by
  cases hx : X u with
  | none => exact ⟨ByAt.nil _ _ _ _, fun a ha => by cases ha⟩
  | some x => exact (h.bd u x hx).2
theorem get_in (h : TbX R g n S X w) (u i : Nat) (hu : u ≤ 4294967295) (hi : u % n = i) (bu bm bo : Nat) (cu : Vb w bu 27 (.int .u32 (u : Int))) (cm : M3 w bm msZ) (co : Vb w bo 4 (.bool false)) (nu : ¬ S bu) (nm : ¬ S bm) (no : ¬ S bo)
    (h1 : bm ≠ bo) (h2 : bu ≠ bm) (h5 : bu ≠ bo) (hl : ((X u).getD msZ).b.length ≤ 65536) :
    Calls Tryz.prog 64 #[.pointer (some ⟨g, 0, none⟩), .int .u32 u, .func (.func 65) #[] #[.pointer (some ⟨bu, 0, none⟩), .pointer (some ⟨bm, 0, none⟩), .pointer (some ⟨bo, 0, none⟩)]] w fun e w' => e = .returned (.tuple #[]) ∧
      (∃ y, keyM y = keyM ((X u).getD msZ) ∧ M3 w' bm y ∧ Vb w' bo 4 (.bool (X u).isSome) ∧ w'.ownsRow w.heap.size 5 1 (.slice y.A y.b.length y.k) y.b.length (flatL encB y.b)) ∧ TbX R g n S X w' ∧ KeptO (fun k => (k = bm ∨ k = bo) ∨ k = R.ss i) w w' := by
  have hin : i < n := by rw [← hi]; exact Nat.mod_lt _ h.hn.1
  have hs := h.Ks hin
  have hb := h.Kb hin
  have hsu : bu ≠ R.ss i := fun e => nu (e ▸ hs)
  have hsm : bm ≠ R.ss i := fun e => nm (e ▸ hs)
  have hso : bo ≠ R.ss i := fun e => no (e ▸ hs)
  obtain ⟨c, hc⟩ := h.mp i hin
  obtain ⟨hy, hS⟩ := getD_body h u
  have hG : GX X n i u = (X u).map msV := by unfold GX; rw [if_pos hi]
  refine (in_fr 65 _ h u i hu hi (fun args w => by simp [go_sem]) (fun k => k = bm ∨ k = bo) (fun e => e.elim (fun e => hsm e.symm) (fun e => hso e.symm))
    (fun w' => ∃ y, keyM y = keyM ((X u).getD msZ) ∧ M3 w' bm y ∧ Vb w' bo 4 (.bool (X u).isSome) ∧ w'.ownsRow w.heap.size 5 1 (.slice y.A y.b.length y.k) y.b.length (flatL encB y.b)) (fun W hk hst => ?_) ?_).mono ?_
  · refine (get1_any (R.ss i) (R.bb i) bu bm bo c u hu (GX X n i) (X u) hG W hst (cu.kept hk hsu).cell (cm.kept hk hsm) (co.kept hk hso) h1 h2 hsm.symm hso.symm h5 (hc.at_ (hk.block _ hc.lt (fun e => h.sb _ _ hin hin e.symm))) (hy.keptO hk fun a ha e => (hS a ha).2 (.inr (.inr ⟨i, hin, .inl e⟩))) hl
      (fun a ha => ⟨fun e => nm (e ▸ (hS a ha).1), fun e => no (e ▸ (hS a ha).1)⟩)).mono ?_
    rintro e w' ⟨rfl, y, k1, k2, k3, k4, k5⟩
    exact ⟨rfl, k5, y, k1, k2, k3, own_mono k4 hk.size⟩
  · rintro W ⟨y, k1, k2, k3, k4⟩ hlt
    exact ⟨y, k1, k2.kept (KeptO.set W (R.ss i) 0 _) hsm, k3.kept (KeptO.set W (R.ss i) 0 _) hso, own_keptO k4 (KeptO.set W (R.ss i) 0 _) fun k e => by subst e; exact h.lt _ hs⟩
  · rintro e w' ⟨rfl, hP, hst, hk⟩
    refine ⟨rfl, hP, ?_, hk⟩
    refine h.change i hin hk (fun k j1 j2 => ?_) hst ⟨c, hc.at_ (hk.block _ hc.lt fun e => ?_)⟩ (fun _ _ => rfl) (fun _ => id) (fun k hk2 => Nat.lt_of_lt_of_le (h.lt k hk2) hk.size) fun u x hx => h.body hk (fun k j1 j2 => ?_) hx
    · rcases j1 with (rfl | rfl) | rfl
      · exact absurd j2 nm
      · exact absurd j2 no
      · exact .inl rfl
    · rcases e with (e | e) | e
      · exact nm (e ▸ hb)
      · exact no (e ▸ hb)
      · exact h.sb _ _ hin hin e.symm
    · rcases j1 with (rfl | rfl) | rfl
      · exact absurd j2 nm
      · exact absurd j2 no
      · exact .inr (.inr ⟨i, hin, .inl rfl⟩)
set_option maxRecDepth 100000 in
set_option maxHeartbeats 2000000 in
theorem get_go (h : TbX R g n S X w) (u : Nat) (hu : u ≤ 4294967295) (hl : ((X u).getD msZ).b.length ≤ 65536) :
    Calls Tryz.prog 43 #[.pointer (some ⟨g, 0, none⟩), .int .u32 u] w fun e w' => ∃ y : MI, e = .returned (.tuple #[msV y, .bool (X u).isSome]) ∧
      keyM y = keyM ((X u).getD msZ) ∧ w'.ownsRow w.heap.size 5 1 (.slice y.A y.b.length y.k) y.b.length (flatL encB y.b) ∧ TbX R g n S X w' ∧ KeptO S w w' := by
  have HC : Hid (∀ W, W = ((((w.alloc (.cells #[.int .u32 (u : Int)] 27)).alloc (.cells #[.int .u32 0, .int .u8 0, .slice none 0 0] 52)).alloc (.cells #[.int .u32 0, .int .u8 0, .slice none 0 0] 52)).alloc (.cells #[.bool false] 4)) →
      Calls Tryz.prog 64 #[.pointer (some ⟨g, 0, none⟩), .int .u32 u, .func (.func 65) #[] #[.pointer (some ⟨w.heap.size, 0, none⟩), .pointer (some ⟨w.heap.size + 1 + 1, 0, none⟩), .pointer (some ⟨w.heap.size + 1 + 1 + 1, 0, none⟩)]] W fun e w' => e = .returned (.tuple #[]) ∧
      ∃ y, Hid (keyM y = keyM ((X u).getD msZ)) ∧ M3 w' (w.heap.size + 1 + 1) y ∧ M3 w' (w.heap.size + 1) msZ ∧ Vb w' (w.heap.size + 1 + 1 + 1) 4 (.bool (X u).isSome) ∧ Hid (w'.ownsRow (w.heap.size + 4) 5 1 (.slice y.A y.b.length y.k) y.b.length (flatL encB y.b)) ∧ Hid (TbX R g n S X w') ∧ Hid (KeptO S w w')) := by
    refine Lib.hid fun W hW => ?_
    obtain ⟨x0, x1, x2, x3, hb, hz⟩ := four_new w _ _ _ _ W hW
    have hS : ∀ k, w.heap.size ≤ k → ¬ S k := fun k h1 h2 => by have := h.lt k h2; omega
    have hin : u % n < n := Nat.mod_lt _ h.hn.1
    refine (get_in (h.below hb) u (u % n) hu rfl w.heap.size (w.heap.size + 1 + 1) (w.heap.size + 1 + 1 + 1) x0 x2 x3 (hS _ (by omega)) (hS _ (by omega)) (hS _ (by omega)) (by omega) (by omega) (by omega) hl).mono ?_
    rintro e w' ⟨rfl, ⟨y, k1, k2, k3, k4⟩, k5, k6⟩
    rw [hz] at k4
    refine ⟨rfl, y, k1, k2, x1.kept k6 ?_, k3, k4, k5, ?_⟩
    · rintro ((e | e) | e)
      · omega
      · omega
      · exact hS _ (by omega) (e ▸ h.Ks hin)
    · refine (KeptO.of_below (S := S) hb).trans k6 ?_
      rintro j ((e | e) | e)
      · right; omega
      · right; omega
      · exact .inl (e ▸ h.Ks hin)
  have hS : ∀ k, S k → k < w.heap.size := h.lt
  generalize (X u).isSome = ok at *
  generalize (X u).getD msZ = x at *
  clear h hl
  go_enter Tryz.func43, Tryz.ntmps43
  go_wp2_with fail
  refine (HC.out _ rfl).mono ?_
  rintro e w1 ⟨rfl, y, k1, k2, k3, k4, k5, k6, k7⟩
  clear HC
  have F1 := KeptO.drew (st3_kept w1 (w.heap.size + 1) y)
  have F2 := (k3.st3 y).draw
  obtain ⟨d0, d1, d2⟩ := k2.cells
  obtain ⟨f0, f1, f2⟩ := k3.cells
  have g0 := k3.fz 0
  have g1 := k3.fz 1
  have g2 := k3.fz 2
  have c0 := k4.cell
  clear k2 k3 k4
  unfold st3 at F1 F2
  go_upto_region 4 with (fail)
  go_region
  clear d0 d1 d2 f0 f1 f2 g0 g1 g2 c0
  generalize World.drew _ = w2 at *
  obtain ⟨d0, d1, d2⟩ := F2.cells
  have F2h := Lib.hid F2
  have F1h := Lib.hid F1
  clear F2 F1
  go_wp2_with fail
  refine bodyPost_ret (v := .tuple #[msV y, .bool ok]) ?_ rfl ?_
  · simp [results, Tryz.results43, go_sem, d0, d1, d2, msV]
  · refine ⟨y, rfl, k1.out, own_mono (own_keptO k5.out F1h.out fun k e => by omega) (by omega), k6.out.kept F1h.out fun k h1 h2 => by have := hS k h1; omega, k7.out.trans F1h.out fun j e => ?_⟩
    right
    omega
end
end Go.Proofs.YthdbbappojkmoaaGreat
