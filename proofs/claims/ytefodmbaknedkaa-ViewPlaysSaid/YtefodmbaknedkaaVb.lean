/- Layer 15 in plain words: events, pushed, squeezed, flushed; where they lie. No walk. -/
import Derived.Test.YtefodmbaknedkaaVa
import Derived.Laws.Slices
import Derived.Laws.IdiomStrings
import Derived.Shelf.Bytes.SlSmallAll
namespace Go.Proofs.Ytefodmbaknedkaa
open Go.RowKit

/-- An event: kind, identifier, flags. -/
structure EvI where
  k : Int
  u : Nat
  f : Nat
deriving DecidableEq
instance : Inhabited EvI := ⟨⟨0, 0, 0⟩⟩
def encEv (e : EvI) : List Value := [.int .i64 e.k, .int .u32 (e.u : Int), .int .u8 (e.f : Int)]
def evV (e : EvI) : Value := .agg #[.int .i64 e.k, .int .u32 (e.u : Int), .int .u8 (e.f : Int)]
theorem encEv_len (e : EvI) : (encEv e).length = 3 := rfl
theorem one_flatEv (l : List EvI) : ∀ u ∈ flatL encEv l, u.oneCell' = true := by
  intro u hu
  obtain ⟨r, _, hr⟩ := List.mem_flatMap.1 hu
  simp [encEv] at hr
  rcases hr with rfl | rfl | rfl <;> rfl
theorem infoEv : (Try.prog.info? 55).map (fun i => (i.zero, i.size, i.bytes)) = some (some (.agg #[.int .i64 0, .int .u32 0, .int .u8 0]), 3, 16) := by kernel_rfl
theorem SlAt.ev {w : World} {A : Option Addr} {l : List EvI} (h : SlAt encEv 3 w A l) {j : Nat} (hj : j < l.length) :
    ∃ b off, A = some ⟨b, off, none⟩ ∧ b < w.heap.size ∧ w.cell? ⟨b, off + j * 3, none⟩ = some (.int .i64 l[j].k) ∧ w.cell? ⟨b, off + j * 3 + 1, none⟩ = some (.int .u32 (l[j].u : Int)) ∧ w.cell? ⟨b, off + j * 3 + 2, none⟩ = some (.int .u8 (l[j].f : Int)) := by
  obtain ⟨b, off, hA, hb, hc⟩ := h.at_ hj
  exact ⟨b, off, hA, hb, by simpa using hc 0 _ rfl, hc 1 _ rfl, hc 2 _ rfl⟩
/-- One event in a block of its own. -/
theorem slAt_ev {W : World} {b : Nat} (x : EvI) (h : W.heap[b]? = some (.cells #[.int .i64 x.k, .int .u32 (x.u : Int), .int .u8 (x.f : Int)] 55)) : SlAt encEv 3 W (some ⟨b, 0, none⟩) [x] := by
  refine .inr ⟨b, 0, rfl, (Array.getElem?_eq_some_iff.1 h).1, fun j y hj i v hi => ?_⟩
  match j, hj with
  | 0, hj =>
    simp at hj
    subst hj
    match i, hi with
    | 0, hi => simp [encEv] at hi; subst hi; exact cell_of_row _ _ 0 _ _ _ h
    | 1, hi => simp [encEv] at hi; subst hi; exact cell_of_row _ _ 1 _ _ _ h
    | 2, hi => simp [encEv] at hi; subst hi; exact cell_of_row _ _ 2 _ _ _ h
    | n + 3, hi => simp [encEv] at hi
def evOk (e : EvI) : Prop := (-9223372036854775808 ≤ e.k ∧ e.k ≤ 9223372036854775807) ∧ e.u ≤ 4294967295 ∧ e.f ≤ 255

def knownE (e : EvI) : Bool := decide (1 ≤ e.k ∧ e.k ≤ 3)
/-- What a queue has behind Push. -/
def pushE (q l : List EvI) : List EvI := q ++ l.filter knownE
/-- A later change of the same message. -/
def laterE (x : EvI) (l : List EvI) : Bool := l.any fun y => decide (x.k = 3 ∧ y.k = 3 ∧ y.u = x.u)
def sqE : List EvI → List EvI
  | [] => []
  | x :: l => if laterE x l = true then sqE l else x :: sqE l
def toldE (gone : Bool) (q : List EvI) : List EvI := q.filter fun e => gone || decide (e.k ≠ 2)
def restE (gone : Bool) (q : List EvI) : List EvI := q.filter fun e => !(gone || decide (e.k ≠ 2))
def hasE (q : List EvI) (u : Nat) : Bool := q.any fun e => decide (e.k = 2 ∧ e.u = u)

theorem sqE_len : ∀ l : List EvI, (sqE l).length ≤ l.length
  | [] => Nat.le_refl _
  | x :: l => by
    have := sqE_len l
    unfold sqE
    split
    · simp; omega
    · simp; omega
theorem pushE_len (q l : List EvI) : (pushE q l).length ≤ q.length + l.length := by
  unfold pushE
  rw [List.length_append]
  have := List.length_filter_le knownE l
  omega
theorem toldE_len (g : Bool) (q : List EvI) : (toldE g q).length ≤ q.length := List.length_filter_le _ _
theorem restE_len (g : Bool) (q : List EvI) : (restE g q).length ≤ q.length := List.length_filter_le _ _
theorem sqE_sub : ∀ {l : List EvI} {x : EvI}, x ∈ sqE l → x ∈ l
  | y :: l, x, h => by
    unfold sqE at h
    split at h
    · exact List.mem_cons_of_mem _ (sqE_sub h)
    · rcases List.mem_cons.1 h with e | e
      · rw [e]; exact List.mem_cons_self ..
      · exact List.mem_cons_of_mem _ (sqE_sub e)
/-- What is squeezed has no change that another follows. -/
theorem sqE_later : ∀ {l : List EvI}, (sqE l).Pairwise fun x y => ¬ (x.k = 3 ∧ y.k = 3 ∧ y.u = x.u)
  | [] => .nil
  | x :: l => by
    unfold sqE
    split
    · exact sqE_later
    · next h =>
      refine List.pairwise_cons.2 ⟨fun y hy hxy => h ?_, sqE_later⟩
      unfold laterE
      rw [List.any_eq_true]
      exact ⟨y, sqE_sub hy, decide_eq_true hxy⟩
theorem sqE_id : ∀ {l : List EvI}, (l.Pairwise fun x y => ¬ (x.k = 3 ∧ y.k = 3 ∧ y.u = x.u)) → sqE l = l
  | [], _ => rfl
  | x :: l, h => by
    have h' := List.pairwise_cons.1 h
    unfold sqE
    rw [if_neg, sqE_id h'.2]
    unfold laterE
    rw [List.any_eq_true]
    rintro ⟨y, hy, e⟩
    exact h'.1 y hy (of_decide_eq_true e)
/-- Squeezing twice changes nothing more. -/
theorem sqE_twice (l : List EvI) : sqE (sqE l) = sqE l := sqE_id sqE_later
/-- Events that are no changes stay. -/
theorem sqE_filter (p : EvI → Bool) (hp : ∀ e, p e = true → e.k ≠ 3) : ∀ l : List EvI, (sqE l).filter p = l.filter p
  | [] => rfl
  | x :: l => by
    unfold sqE
    split
    · next h =>
      have hx : p x = false := by
        cases hpx : p x with
        | false => rfl
        | true =>
          unfold laterE at h
          rw [List.any_eq_true] at h
          obtain ⟨y, _, e⟩ := h
          exact absurd (of_decide_eq_true e).1 (hp x hpx)
      rw [List.filter_cons_of_neg (by simp [hx]), sqE_filter p hp l]
    · rw [List.filter_cons, List.filter_cons, sqE_filter p hp l]
end Go.Proofs.Ytefodmbaknedkaa

namespace Go.Proofs.Ytefodmbaknedkaa
open Go.RowKit

theorem undV17 : Try.prog.underlying 28 = some (.slice (Try.prog.elem 28)) := by kernel_rfl
theorem sizeV17 (w : World) : (sizeOf (Try.prog.elem 28)).run Try.prog w = .ok 3 w := by kernel_rfl
/-- '[lo:]', '[:hi]'. -/
theorem sliceV_l (A : Option Addr) (n c lo : Nat) (h1 : lo ≤ n) (W : World) :
    (Instr.slice 28 (.slice A n c) (some (.int .i64 (lo : Int))) none none).run Try.prog W = .ok (.slice (offG 3 A c lo) (n - lo) (c - lo)) W := by
  rw [run_slice_l W _ A n c undV17 .i64 lo (by omega) (by omega), sizeV17]
  rfl
theorem sliceV_h (A : Option Addr) (n c hi : Nat) (h1 : hi ≤ c) (W : World) :
    (Instr.slice 28 (.slice A n c) none (some (.int .i64 (hi : Int))) none).run Try.prog W = .ok (.slice A hi c) W := by
  rw [run_slice_h W _ A n c undV17 .i64 hi (by omega) (by omega), sizeV17]
  have e : (if c = 0 then A else A.map (·.add (0 * 3))) = A := by
    split
    · rfl
    · rcases A with _ | ⟨b, o, s⟩ <;> simp [Addr.add]
  simp only [Result.andThen, sliced, e, Int.toNat_natCast, Nat.sub_zero]
/-- '[1:]'. -/
theorem sliceV_1 (A : Option Addr) (n c : Nat) (W : World) : (Instr.slice 28 (.slice A (n + 1) c) (some (.int .i64 1)) none none).run Try.prog W = .ok (.slice (offG 3 A c 1) n (c - 1)) W := sliceV_l A (n + 1) c 1 (by omega) W
theorem sliceAtV (x : Value) (lo hi mx : Option Value) (W : World) : (Instr.sliceAt 28 x lo hi mx).run Try.prog W = (Instr.slice 28 x lo hi mx).run Try.prog W := run_sliceAt_slice W _ _ _ _ _ undV17
end Go.Proofs.Ytefodmbaknedkaa

namespace Go.Proofs.Ytefodmbaknedkaa
open Go.RowKit

/-- A byte's cell. -/
def encB (c : UInt8) : List Value := [.int .u8 (c.toNat : Int)]
theorem encB_len (c : UInt8) : (encB c).length = 1 := rfl
theorem flatB (l : List UInt8) : flatL encB l = l.map fun c => Value.int .u8 (c.toNat : Int) := by
  induction l with
  | nil => rfl
  | cons n l ih =>
    have : flatL encB (n :: l) = encB n ++ flatL encB l := rfl
    rw [this, ih]
    rfl
theorem one_flatB (l : List UInt8) : ∀ u ∈ flatL encB l, u.oneCell' = true := by
  intro u hu
  rw [flatB] at hu
  obtain ⟨r, _, rfl⟩ := List.mem_map.1 hu
  rfl

/-- The slice of address A and capacity c reads as l; its array lies below block B. -/
structure ByAt (B : Nat) (w : World) (A : Option Addr) (c : Nat) (l : List UInt8) : Prop where
  le : l.length ≤ c
  lies : l = [] ∨ ∃ b off, A = some ⟨b, off, none⟩ ∧ b < B ∧ b < w.heap.size ∧ ∀ j (h : j < l.length), w.cell? ⟨b, off + j, none⟩ = some (.int .u8 (l[j].toNat : Int))

section
variable {B B' : Nat} {w w' : World} {A : Option Addr} {c : Nat} {l : List UInt8}

theorem ByAt.nil (B : Nat) (w : World) (A : Option Addr) (c : Nat) : ByAt B w A c [] := ⟨Nat.zero_le _, .inl rfl⟩
theorem ByAt.mono (h : ByAt B w A c l) (hB : B ≤ B') : ByAt B' w A c l := by
  refine ⟨h.le, ?_⟩
  rcases h.lies with h0 | ⟨b, off, hA, hb, hw, hc⟩
  · exact .inl h0
  · exact .inr ⟨b, off, hA, by omega, hw, hc⟩
theorem ByAt.below (h : ByAt B w A c l) (hb : Below B w w') : ByAt B w' A c l := by
  refine ⟨h.le, ?_⟩
  rcases h.lies with h0 | ⟨b, off, hA, hlt, hw, hc⟩
  · exact .inl h0
  · exact .inr ⟨b, off, hA, hlt, Nat.lt_of_lt_of_le hw hb.size, fun j hj => (hb.cell (p := ⟨b, off + j, none⟩) hlt).trans (hc j hj)⟩
/-- What lay in the heap lies there still behind a call that only makes memory. -/
theorem ByAt.grow (h : ByAt B w A c l) (hb : Below w.heap.size w w') : ByAt B w' A c l := by
  refine ⟨h.le, ?_⟩
  rcases h.lies with h0 | ⟨b, off, hA, hlt, hw, hc⟩
  · exact .inl h0
  · exact .inr ⟨b, off, hA, hlt, Nat.lt_of_lt_of_le hw hb.size, fun j hj => (hb.cell (p := ⟨b, off + j, none⟩) hw).trans (hc j hj)⟩
theorem ByAt.here (h : ByAt B w A c l) : ByAt w.heap.size w A c l := by
  refine ⟨h.le, ?_⟩
  rcases h.lies with h0 | ⟨b, off, hA, hlt, hw, hc⟩
  · exact .inl h0
  · exact .inr ⟨b, off, hA, hw, hw, hc⟩
theorem ByAt.cell (h : ByAt B w A c l) {j : Nat} (hj : j < l.length) : ∃ b off, A = some ⟨b, off, none⟩ ∧ b < B ∧ b < w.heap.size ∧ w.cell? ⟨b, off + j, none⟩ = some (.int .u8 (l[j].toNat : Int)) := by
  rcases h.lies with rfl | ⟨b, off, hA, hb, hw, hc⟩
  · simp at hj
  · exact ⟨b, off, hA, hb, hw, hc j hj⟩
theorem ByAt.sl (h : ByAt B w A c l) : SlAt encB 1 w A l := by
  rcases h.lies with h0 | ⟨b, off, hA, hb, hw, hc⟩
  · exact .inl h0
  · refine .inr ⟨b, off, hA, hw, fun j x hj i v hi => ?_⟩
    obtain ⟨hlt, rfl⟩ := List.getElem?_eq_some_iff.1 hj
    have hi0 : i = 0 := by
      have := (List.getElem?_eq_some_iff.1 hi).1
      simp [encB] at this
      exact this
    subst hi0
    obtain rfl : v = .int .u8 (l[j].toNat : Int) := by simpa [encB] using hi.symm
    have := hc j hlt
    simpa using this
theorem ByAt.of_sl (h : SlAt encB 1 w A l) (hle : l.length ≤ c) : ByAt w.heap.size w A c l := by
  refine ⟨hle, ?_⟩
  rcases h with h0 | ⟨b, off, hA, hb, hc⟩
  · exact .inl h0
  · refine .inr ⟨b, off, hA, hb, hb, fun j hj => ?_⟩
    have := hc j _ (List.getElem?_eq_getElem hj) 0 _ rfl
    simpa using this
/-- A row of the call's own reads. -/
theorem ByAt.of_own {base e n : Nat} (h : w.ownsRow base e 1 (.slice A n c) l.length (flatL encB l)) : ByAt w.heap.size w A c l := by
  refine ByAt.of_sl (SlAt.of_own encB_len h) ?_
  rcases h.2 with ⟨_, h0⟩ | ⟨g, cap, cur, h1, _, _, hn, _⟩
  · omega
  · injection h1 with _ _ h3
    omega

/-- The address of a cut. -/
def offA (A : Option Addr) (c lo : Nat) : Option Addr := if c = lo then A else A.map (·.add (lo * 1))
theorem ByAt.cut (h : ByAt B w A c l) {lo hi : Nat} (h1 : lo ≤ hi) (h2 : hi ≤ l.length) : ByAt B w (offA A c lo) (c - lo) ((l.take hi).drop lo) := by
  have hlen : ((l.take hi).drop lo).length = hi - lo := by simp; omega
  have hle := h.le
  refine ⟨by rw [hlen]; omega, ?_⟩
  rcases h.lies with rfl | ⟨b, off, rfl, hb, hw, hc⟩
  · exact .inl (by simp)
  · by_cases h0 : lo = hi
    · exact .inl (List.eq_nil_of_length_eq_zero (by rw [hlen]; omega))
    · refine .inr ⟨b, off + lo, ?_, hb, hw, fun j hj => ?_⟩
      · unfold offA
        rw [if_neg (by omega)]
        simp [Addr.add]
      · rw [hlen] at hj
        rw [Nat.add_assoc, hc (lo + j) (by omega)]
        simp
theorem cut_len {lo hi : Nat} (h2 : hi ≤ l.length) : ((l.take hi).drop lo).length = hi - lo := by simp; omega
theorem ByAt.drop (h : ByAt B w A c l) {lo : Nat} (h1 : lo ≤ l.length) : ByAt B w (offA A c lo) (c - lo) (l.drop lo) := by
  have := h.cut h1 (Nat.le_refl _)
  rwa [List.take_length] at this
theorem ByAt.take (h : ByAt B w A c l) {hi : Nat} (h1 : hi ≤ l.length) : ByAt B w A c (l.take hi) := by
  refine ⟨by have := h.le; simp; omega, ?_⟩
  rcases h.lies with rfl | ⟨b, off, rfl, hb, hw, hc⟩
  · exact .inl (by simp)
  · refine .inr ⟨b, off, rfl, hb, hw, fun j hj => ?_⟩
    rw [List.length_take] at hj
    rw [hc j (by omega)]
    simp
end

theorem sizeB (w : World) : (sizeOf (Try.prog.elem 45)).run Try.prog w = .ok 1 w := by kernel_rfl
theorem undB : Try.prog.underlying 45 = some (.slice (Try.prog.elem 45)) := by kernel_rfl

/-- The cut [lo:hi], [lo:], [:hi]. -/
theorem slice_lh (A : Option Addr) (n c lo hi : Nat) (h1 : lo ≤ hi) (h2 : hi ≤ c) (W : World) :
    (Instr.slice 45 (.slice A n c) (some (.int .i64 (lo : Int))) (some (.int .i64 (hi : Int))) none).run Try.prog W = .ok (.slice (offA A c lo) (hi - lo) (c - lo)) W := by
  rw [run_slice_lh W _ A n c undB .i64 .i64 lo hi (by omega) (by omega) (by omega), sizeB]
  rfl
theorem slice_l (A : Option Addr) (n c lo : Nat) (h1 : lo ≤ n) (W : World) :
    (Instr.slice 45 (.slice A n c) (some (.int .i64 (lo : Int))) none none).run Try.prog W = .ok (.slice (offA A c lo) (n - lo) (c - lo)) W := by
  rw [run_slice_l W _ A n c undB .i64 lo (by omega) (by omega), sizeB]
  rfl
theorem slice_h (A : Option Addr) (n c hi : Nat) (h1 : hi ≤ c) (W : World) :
    (Instr.slice 45 (.slice A n c) none (some (.int .i64 (hi : Int))) none).run Try.prog W = .ok (.slice A hi c) W := by
  rw [run_slice_h W _ A n c undB .i64 hi (by omega) (by omega), sizeB]
  have e : (if c = 0 then A else A.map (·.add (0 * 1))) = A := by
    split
    · rfl
    · rcases A with _ | ⟨b, o, s⟩ <;> simp [Addr.add]
  simp only [Result.andThen, sliced, e, Int.toNat_natCast, Nat.sub_zero]
theorem sliceAt_eq (x : Value) (lo hi mx : Option Value) (W : World) : (Instr.sliceAt 45 x lo hi mx).run Try.prog W = (Instr.slice 45 x lo hi mx).run Try.prog W := run_sliceAt_slice W _ _ _ _ _ undB

/-- The string of a slice of bytes. -/
theorem convS (B : Nat) (w : World) (A : Option Addr) (c n : Nat) (l : List UInt8) (h : ByAt B w A c l) (hn : l.length = n) :
    (convert 45 9 (.slice A n c)).run Try.prog w = .ok (.string ⟨l.toArray⟩) w := by
  subst hn
  rcases h.lies with rfl | ⟨b, off, rfl, _, _, hc⟩
  · exact run_convert_bytes_zero w 45 5 Try.underlying45 Try.underlying5 A c 9 Try.underlying9
  · exact run_convert_bytes_back w 45 9 5 ⟨b, off, none⟩ c l Try.underlying45 Try.underlying5 Try.underlying9 (fun j hj => by rw [Addr.add_lit]; exact hc j hj)

theorem bytesRow_reads (s : ByteArray) (cap : Nat) (w : World) (g : Nat) (fr : Nat × Nat) (h : w.heap[g]? = some (.cells (bytesRow s cap) 5 fr)) (hc : s.size ≤ cap) : ByAt w.heap.size w (some ⟨g, 0, none⟩) cap s.data.toList := by
  have hg := (Array.getElem?_eq_some_iff.1 h).1
  refine ⟨by rw [Array.length_toList]; exact hc, .inr ⟨g, 0, rfl, hg, hg, fun j hj => ?_⟩⟩
  rw [Array.length_toList] at hj
  rw [Nat.zero_add, cell_of_row w g j _ _ _ h, bytesRow_at s cap j hj]
  simp
/-- '[]byte(s)': a new row that reads as the string's bytes. -/
theorem convB (w : World) (s : ByteArray) (m : Nat) (hm : s.size = m) : ∃ cap w', (convert 9 45 (.string s)).run Try.prog w = .ok (.slice (some ⟨w.heap.size, 0, none⟩) m cap) w' ∧ Below w.heap.size w w' ∧ ByAt w'.heap.size w' (some ⟨w.heap.size, 0, none⟩) cap s.data.toList ∧ m ≤ cap ∧ w'.heap.size = w.heap.size + 1 ∧
    w'.heap[w.heap.size]? = some (.cells (bytesRow s cap) 5 ((bytesRow s cap).size, (bytesRow s cap).size + 1)) := by
  subst hm
  have hr := run_bytes_of_string (P := Try.prog) w 9 45 5 s Try.underlying9 Try.underlying45 Try.underlying5
  have hc := grownCap_ge w s.size 0 5
  generalize grownCap w s.size 0 5 = cap at hr hc
  have hn := heap_alloc_new w.drew (.cells (bytesRow s cap) 5 ((bytesRow s cap).size, (bytesRow s cap).size + 1))
  exact ⟨cap, _, hr, (Below.refl w.heap.size w).drew.alloc (Nat.le_refl _) _, bytesRow_reads s cap _ _ _ hn hc, hc, World.size_alloc _ _, hn⟩
end Go.Proofs.Ytefodmbaknedkaa

namespace Go.Proofs.Ytefodmbaknedkaa
open Go.RowKit

theorem belDraw {B : Nat} {a x : World} (h : Below B a x) : Below B a x.drew := h.trans (Below.refl B x).drew
theorem belDrawN {B : Nat} {a x : World} (h : Below B a x) (n : Nat) : Below B a (x.drewN n) := h.trans ⟨rfl, rfl, rfl, Nat.le_refl _, fun _ _ => rfl⟩
theorem belAlloc {a x : World} (h : Below a.heap.size a x) (o : Obj) : Below a.heap.size a (x.alloc o) := below_next h (below_al x o)
theorem belSet {a x : World} {b i : Nat} (h : Below a.heap.size a x) (hb : a.heap.size ≤ b) (v : Value) : Below a.heap.size a (x.setCell ⟨b, i, none⟩ v) := h.setCell (p := ⟨b, i, none⟩) hb v
end Go.Proofs.Ytefodmbaknedkaa
