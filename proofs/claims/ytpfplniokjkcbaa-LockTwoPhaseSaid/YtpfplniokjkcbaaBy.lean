/- Slices of bytes that read as lists, their array below a block; what a cut of one is; strings out of them. -/
import Derived.Test.YtpfplniokjkcbaaAppend
import Derived.Laws.Slices
import Derived.Laws.IdiomStrings
import Derived.Shelf.Bytes.SlSmallAll
namespace Go.Proofs.Ytpfplniokjkcbaa
open Go.RowKit

/-- A byte's cell. -/
def encB (c : UInt8) : List Value := [.int .u8 (c.toNat : Int)]
theorem encB_len (c : UInt8) : (encB c).length = 1 := rfl
theorem flatB (l : List UInt8) : flatL encB l = l.map fun c => Value.int .u8 (c.toNat : Int) := by
  induction l with
  | nil => rfl
  | cons n l ih =>
    have : flatL encB (n :: l) = encB n ++ flatL encB l := rfl
    rw [this, ih]
    rfl
theorem one_flatB (l : List UInt8) : ∀ u ∈ flatL encB l, u.oneCell' = true := by
  intro u hu
  rw [flatB] at hu
  obtain ⟨r, _, rfl⟩ := List.mem_map.1 hu
  rfl

/-- The slice of address A and capacity c reads as l; its array lies below block B. -/
structure ByAt (B : Nat) (w : World) (A : Option Addr) (c : Nat) (l : List UInt8) : Prop where
  le : l.length ≤ c
  lies : l = [] ∨ ∃ b off, A = some ⟨b, off, none⟩ ∧ b < B ∧ b < w.heap.size ∧ ∀ j (h : j < l.length), w.cell? ⟨b, off + j, none⟩ = some (.int .u8 (l[j].toNat : Int))

section
variable {B B' : Nat} {w w' : World} {A : Option Addr} {c : Nat} {l : List UInt8}

theorem ByAt.nil (B : Nat) (w : World) (A : Option Addr) (c : Nat) : ByAt B w A c [] := ⟨Nat.zero_le _, .inl rfl⟩
theorem ByAt.mono (h : ByAt B w A c l) (hB : B ≤ B') : ByAt B' w A c l := by
  refine ⟨h.le, ?_⟩
  rcases h.lies with h0 | ⟨b, off, hA, hb, hw, hc⟩
  · exact .inl h0
  · exact .inr ⟨b, off, hA, by omega, hw, hc⟩
theorem ByAt.below (h : ByAt B w A c l) (hb : Below B w w') : ByAt B w' A c l := by
  refine ⟨h.le, ?_⟩
  rcases h.lies with h0 | ⟨b, off, hA, hlt, hw, hc⟩
  · exact .inl h0
  · exact .inr ⟨b, off, hA, hlt, Nat.lt_of_lt_of_le hw hb.size, fun j hj => (hb.cell (p := ⟨b, off + j, none⟩) hlt).trans (hc j hj)⟩
/-- What lay in the heap lies there still behind a call that only makes memory. -/
theorem ByAt.grow (h : ByAt B w A c l) (hb : Below w.heap.size w w') : ByAt B w' A c l := by
  refine ⟨h.le, ?_⟩
  rcases h.lies with h0 | ⟨b, off, hA, hlt, hw, hc⟩
  · exact .inl h0
  · exact .inr ⟨b, off, hA, hlt, Nat.lt_of_lt_of_le hw hb.size, fun j hj => (hb.cell (p := ⟨b, off + j, none⟩) hw).trans (hc j hj)⟩
theorem ByAt.here (h : ByAt B w A c l) : ByAt w.heap.size w A c l := by
  refine ⟨h.le, ?_⟩
  rcases h.lies with h0 | ⟨b, off, hA, hlt, hw, hc⟩
  · exact .inl h0
  · exact .inr ⟨b, off, hA, hw, hw, hc⟩
theorem ByAt.cell (h : ByAt B w A c l) {j : Nat} (hj : j < l.length) : ∃ b off, A = some ⟨b, off, none⟩ ∧ b < B ∧ b < w.heap.size ∧ w.cell? ⟨b, off + j, none⟩ = some (.int .u8 (l[j].toNat : Int)) := by
  rcases h.lies with rfl | ⟨b, off, hA, hb, hw, hc⟩
  · simp at hj
  · exact ⟨b, off, hA, hb, hw, hc j hj⟩
theorem ByAt.sl (h : ByAt B w A c l) : SlAt encB 1 w A l := by
  rcases h.lies with h0 | ⟨b, off, hA, hb, hw, hc⟩
  · exact .inl h0
  · refine .inr ⟨b, off, hA, hw, fun j x hj i v hi => ?_⟩
    obtain ⟨hlt, rfl⟩ := List.getElem?_eq_some_iff.1 hj
    have hi0 : i = 0 := by
      have := (List.getElem?_eq_some_iff.1 hi).1
      simp [encB] at this
      exact this
    subst hi0
    obtain rfl : v = .int .u8 (l[j].toNat : Int) := by simpa [encB] using hi.symm
    have := hc j hlt
    simpa using this
theorem ByAt.of_sl (h : SlAt encB 1 w A l) (hle : l.length ≤ c) : ByAt w.heap.size w A c l := by
  refine ⟨hle, ?_⟩
  rcases h with h0 | ⟨b, off, hA, hb, hc⟩
  · exact .inl h0
  · refine .inr ⟨b, off, hA, hb, hb, fun j hj => ?_⟩
    have := hc j _ (List.getElem?_eq_getElem hj) 0 _ rfl
    simpa using this
/-- A row of the call's own reads. -/
theorem ByAt.of_own {base e n : Nat} (h : w.ownsRow base e 1 (.slice A n c) l.length (flatL encB l)) : ByAt w.heap.size w A c l := by
  refine ByAt.of_sl (SlAt.of_own encB_len h) ?_
  rcases h.2 with ⟨_, h0⟩ | ⟨g, cap, cur, h1, _, _, hn, _⟩
  · omega
  · injection h1 with _ _ h3
    omega

/-- The address of a cut. -/
def offA (A : Option Addr) (c lo : Nat) : Option Addr := if c = lo then A else A.map (·.add (lo * 1))
theorem ByAt.cut (h : ByAt B w A c l) {lo hi : Nat} (h1 : lo ≤ hi) (h2 : hi ≤ l.length) : ByAt B w (offA A c lo) (c - lo) ((l.take hi).drop lo) := by
  have hlen : ((l.take hi).drop lo).length = hi - lo := by simp; omega
  have hle := h.le
  refine ⟨by rw [hlen]; omega, ?_⟩
  rcases h.lies with rfl | ⟨b, off, rfl, hb, hw, hc⟩
  · exact .inl (by simp)
  · by_cases h0 : lo = hi
    · exact .inl (List.eq_nil_of_length_eq_zero (by rw [hlen]; omega))
    · refine .inr ⟨b, off + lo, ?_, hb, hw, fun j hj => ?_⟩
      · unfold offA
        rw [if_neg (by omega)]
        simp [Addr.add]
      · rw [hlen] at hj
        rw [Nat.add_assoc, hc (lo + j) (by omega)]
        simp
theorem cut_len {lo hi : Nat} (h2 : hi ≤ l.length) : ((l.take hi).drop lo).length = hi - lo := by simp; omega
theorem ByAt.drop (h : ByAt B w A c l) {lo : Nat} (h1 : lo ≤ l.length) : ByAt B w (offA A c lo) (c - lo) (l.drop lo) := by
  have := h.cut h1 (Nat.le_refl _)
  rwa [List.take_length] at this
theorem ByAt.take (h : ByAt B w A c l) {hi : Nat} (h1 : hi ≤ l.length) : ByAt B w A c (l.take hi) := by
  refine ⟨by have := h.le; simp; omega, ?_⟩
  rcases h.lies with rfl | ⟨b, off, rfl, hb, hw, hc⟩
  · exact .inl (by simp)
  · refine .inr ⟨b, off, rfl, hb, hw, fun j hj => ?_⟩
    rw [List.length_take] at hj
    rw [hc j (by omega)]
    simp
end

theorem sizeB (w : World) : (sizeOf (Try.prog.elem 52)).run Try.prog w = .ok 1 w := by kernel_rfl
theorem undB : Try.prog.underlying 52 = some (.slice (Try.prog.elem 52)) := by kernel_rfl

/-- The cut [lo:hi], [lo:], [:hi]. -/
theorem slice_lh (A : Option Addr) (n c lo hi : Nat) (h1 : lo ≤ hi) (h2 : hi ≤ c) (W : World) :
    (Instr.slice 52 (.slice A n c) (some (.int .i64 (lo : Int))) (some (.int .i64 (hi : Int))) none).run Try.prog W = .ok (.slice (offA A c lo) (hi - lo) (c - lo)) W := by
  rw [run_slice_lh W _ A n c undB .i64 .i64 lo hi (by omega) (by omega) (by omega), sizeB]
  rfl
theorem slice_l (A : Option Addr) (n c lo : Nat) (h1 : lo ≤ n) (W : World) :
    (Instr.slice 52 (.slice A n c) (some (.int .i64 (lo : Int))) none none).run Try.prog W = .ok (.slice (offA A c lo) (n - lo) (c - lo)) W := by
  rw [run_slice_l W _ A n c undB .i64 lo (by omega) (by omega), sizeB]
  rfl
theorem slice_h (A : Option Addr) (n c hi : Nat) (h1 : hi ≤ c) (W : World) :
    (Instr.slice 52 (.slice A n c) none (some (.int .i64 (hi : Int))) none).run Try.prog W = .ok (.slice A hi c) W := by
  rw [run_slice_h W _ A n c undB .i64 hi (by omega) (by omega), sizeB]
  have e : (if c = 0 then A else A.map (·.add (0 * 1))) = A := by
    split
    · rfl
    · rcases A with _ | ⟨b, o, s⟩ <;> simp [Addr.add]
  simp only [Result.andThen, sliced, e, Int.toNat_natCast, Nat.sub_zero]
theorem sliceAt_eq (x : Value) (lo hi mx : Option Value) (W : World) : (Instr.sliceAt 52 x lo hi mx).run Try.prog W = (Instr.slice 52 x lo hi mx).run Try.prog W := run_sliceAt_slice W _ _ _ _ _ undB

/-- The string of a slice of bytes. -/
theorem convS (B : Nat) (w : World) (A : Option Addr) (c n : Nat) (l : List UInt8) (h : ByAt B w A c l) (hn : l.length = n) :
    (convert 52 9 (.slice A n c)).run Try.prog w = .ok (.string ⟨l.toArray⟩) w := by
  subst hn
  rcases h.lies with rfl | ⟨b, off, rfl, _, _, hc⟩
  · exact run_convert_bytes_zero w 52 5 Try.underlying52 Try.underlying5 A c 9 Try.underlying9
  · exact run_convert_bytes_back w 52 9 5 ⟨b, off, none⟩ c l Try.underlying52 Try.underlying5 Try.underlying9 (fun j hj => by rw [Addr.add_lit]; exact hc j hj)

theorem heap_alloc_new (w : World) (o : Obj) : (w.alloc o).heap[w.heap.size]? = some o := by
  show (w.heap.push o)[w.heap.size]? = _
  simp
theorem bytesRow_reads (s : ByteArray) (cap : Nat) (w : World) (g : Nat) (fr : Nat × Nat) (h : w.heap[g]? = some (.cells (bytesRow s cap) 5 fr)) (hc : s.size ≤ cap) : ByAt w.heap.size w (some ⟨g, 0, none⟩) cap s.data.toList := by
  have hg := (Array.getElem?_eq_some_iff.1 h).1
  refine ⟨by rw [Array.length_toList]; exact hc, .inr ⟨g, 0, rfl, hg, hg, fun j hj => ?_⟩⟩
  rw [Array.length_toList] at hj
  rw [Nat.zero_add, cell_of_row w g j _ _ _ h, bytesRow_at s cap j hj]
  simp
/-- '[]byte(s)': a new row that reads as the string's bytes. -/
theorem convB (w : World) (s : ByteArray) (m : Nat) (hm : s.size = m) : ∃ cap w', (convert 9 52 (.string s)).run Try.prog w = .ok (.slice (some ⟨w.heap.size, 0, none⟩) m cap) w' ∧ Below w.heap.size w w' ∧ ByAt w'.heap.size w' (some ⟨w.heap.size, 0, none⟩) cap s.data.toList ∧ m ≤ cap ∧ w'.heap.size = w.heap.size + 1 ∧
    w'.heap[w.heap.size]? = some (.cells (bytesRow s cap) 5 ((bytesRow s cap).size, (bytesRow s cap).size + 1)) := by
  subst hm
  have hr := run_bytes_of_string (P := Try.prog) w 9 52 5 s Try.underlying9 Try.underlying52 Try.underlying5
  have hc := grownCap_ge w s.size 0 5
  generalize grownCap w s.size 0 5 = cap at hr hc
  have hn := heap_alloc_new w.drew (.cells (bytesRow s cap) 5 ((bytesRow s cap).size, (bytesRow s cap).size + 1))
  exact ⟨cap, _, hr, (Below.refl w.heap.size w).drew.alloc (Nat.le_refl _) _, bytesRow_reads s cap _ _ _ hn hc, hc, World.size_alloc _ _, hn⟩
end Go.Proofs.Ytpfplniokjkcbaa
