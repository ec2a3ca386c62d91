/- Slices of bytes that read as lists, their array below a block; what a cut of one is; strings out of them. -/
import Derived.Test.YthdbbappojkmoaaGreatHa
import Derived.Laws.Slices
import Derived.Laws.IdiomStrings
import Derived.Shelf.Bytes.SlSmallAll
import Derived.WalkKit
import Derived.Maps.Ext
import Derived.Laws.BitsAllLaws
import Derived.Maps.OwnSet
import Derived.Test.YthdbbappojkmoaaGreatHb
namespace Go.Proofs.YthdbbappojkmoaaGreat
open Go.RowKit

/-- A byte's cell. -/
def encB (c : UInt8) : List Value := [.int .u8 (c.toNat : Int)]
theorem encB_len (c : UInt8) : (encB c).length = 1 := rfl
theorem flatB (l : List UInt8) : flatL encB l = l.map fun c => Value.int .u8 (c.toNat : Int) := by
  induction l with
  | nil => rfl
  | cons n l ih =>
    have : flatL encB (n :: l) = encB n ++ flatL encB l := rfl
    rw [this, ih]
    rfl
theorem one_flatB (l : List UInt8) : ∀ u ∈ flatL encB l, u.oneCell' = true := by
  intro u hu
  rw [flatB] at hu
  obtain ⟨r, _, rfl⟩ := List.mem_map.1 hu
  rfl

/-- The slice of address A and capacity c reads as l; its array lies below block B. -/
structure ByAt (B : Nat) (w : World) (A : Option Addr) (c : Nat) (l : List UInt8) : Prop where
  le : l.length ≤ c
  lies : l = [] ∨ ∃ b off, A = some ⟨b, off, none⟩ ∧ b < B ∧ b < w.heap.size ∧ ∀ j (h : j < l.length), w.cell? ⟨b, off + j, none⟩ = some (.int .u8 (l[j].toNat : Int))

section
variable {B B' : Nat} {w w' : World} {A : Option Addr} {c : Nat} {l : List UInt8}

theorem ByAt.nil (B : Nat) (w : World) (A : Option Addr) (c : Nat) : ByAt B w A c [] := ⟨Nat.zero_le _, .inl rfl⟩
theorem ByAt.mono (h : ByAt B w A c l) (hB : B ≤ B') : ByAt B' w A c l := by
  refine ⟨h.le, ?_⟩
  rcases h.lies with h0 | ⟨b, off, hA, hb, hw, hc⟩
  · exact .inl h0
  · exact .inr ⟨b, off, hA, by omega, hw, hc⟩
theorem ByAt.below (h : ByAt B w A c l) (hb : Below B w w') : ByAt B w' A c l := by
  refine ⟨h.le, ?_⟩
  rcases h.lies with h0 | ⟨b, off, hA, hlt, hw, hc⟩
  · exact .inl h0
  · exact .inr ⟨b, off, hA, hlt, Nat.lt_of_lt_of_le hw hb.size, fun j hj => (hb.cell (p := ⟨b, off + j, none⟩) hlt).trans (hc j hj)⟩
/-- What lay in the heap lies there still behind a call that only makes memory. -/
theorem ByAt.grow (h : ByAt B w A c l) (hb : Below w.heap.size w w') : ByAt B w' A c l := by
  refine ⟨h.le, ?_⟩
  rcases h.lies with h0 | ⟨b, off, hA, hlt, hw, hc⟩
  · exact .inl h0
  · exact .inr ⟨b, off, hA, hlt, Nat.lt_of_lt_of_le hw hb.size, fun j hj => (hb.cell (p := ⟨b, off + j, none⟩) hw).trans (hc j hj)⟩
theorem ByAt.here (h : ByAt B w A c l) : ByAt w.heap.size w A c l := by
  refine ⟨h.le, ?_⟩
  rcases h.lies with h0 | ⟨b, off, hA, hlt, hw, hc⟩
  · exact .inl h0
  · exact .inr ⟨b, off, hA, hw, hw, hc⟩
theorem ByAt.cell (h : ByAt B w A c l) {j : Nat} (hj : j < l.length) : ∃ b off, A = some ⟨b, off, none⟩ ∧ b < B ∧ b < w.heap.size ∧ w.cell? ⟨b, off + j, none⟩ = some (.int .u8 (l[j].toNat : Int)) := by
  rcases h.lies with rfl | ⟨b, off, hA, hb, hw, hc⟩
  · simp at hj
  · exact ⟨b, off, hA, hb, hw, hc j hj⟩
theorem ByAt.sl (h : ByAt B w A c l) : SlAt encB 1 w A l := by
  rcases h.lies with h0 | ⟨b, off, hA, hb, hw, hc⟩
  · exact .inl h0
  · refine .inr ⟨b, off, hA, hw, fun j x hj i v hi => ?_⟩
    obtain ⟨hlt, rfl⟩ := List.getElem?_eq_some_iff.1 hj
    have hi0 : i = 0 := by
      have := (List.getElem?_eq_some_iff.1 hi).1
      simp [encB] at this
      exact this
    subst hi0
    obtain rfl : v = .int .u8 (l[j].toNat : Int) := by simpa [encB] using hi.symm
    have := hc j hlt
    simpa using this
theorem ByAt.of_sl (h : SlAt encB 1 w A l) (hle : l.length ≤ c) : ByAt w.heap.size w A c l := by
  refine ⟨hle, ?_⟩
  rcases h with h0 | ⟨b, off, hA, hb, hc⟩
  · exact .inl h0
  · refine .inr ⟨b, off, hA, hb, hb, fun j hj => ?_⟩
    have := hc j _ (List.getElem?_eq_getElem hj) 0 _ rfl
    simpa using this
/-- A row of the call's own reads. -/
theorem ByAt.of_own {base e n : Nat} (h : w.ownsRow base e 1 (.slice A n c) l.length (flatL encB l)) : ByAt w.heap.size w A c l := by
  refine ByAt.of_sl (SlAt.of_own encB_len h) ?_
  rcases h.2 with ⟨_, h0⟩ | ⟨g, cap, cur, h1, _, _, hn, _⟩
  · omega
  · injection h1 with _ _ h3
    omega

/-- The address of a cut. -/
def offA (A : Option Addr) (c lo : Nat) : Option Addr := if c = lo then A else A.map (·.add (lo * 1))
theorem ByAt.cut (h : ByAt B w A c l) {lo hi : Nat} (h1 : lo ≤ hi) (h2 : hi ≤ l.length) : ByAt B w (offA A c lo) (c - lo) ((l.take hi).drop lo) := by
  have hlen : ((l.take hi).drop lo).length = hi - lo := by simp; omega
  have hle := h.le
  refine ⟨by rw [hlen]; omega, ?_⟩
  rcases h.lies with rfl | ⟨b, off, rfl, hb, hw, hc⟩
  · exact .inl (by simp)
  · by_cases h0 : lo = hi
    · exact .inl (List.eq_nil_of_length_eq_zero (by rw [hlen]; omega))
    · refine .inr ⟨b, off + lo, ?_, hb, hw, fun j hj => ?_⟩
      · unfold offA
        rw [if_neg (by omega)]
        simp [Addr.add]
      · rw [hlen] at hj
        rw [Nat.add_assoc, hc (lo + j) (by omega)]
        simp
theorem cut_len {lo hi : Nat} (h2 : hi ≤ l.length) : ((l.take hi).drop lo).length = hi - lo := by simp; omega
theorem ByAt.drop (h : ByAt B w A c l) {lo : Nat} (h1 : lo ≤ l.length) : ByAt B w (offA A c lo) (c - lo) (l.drop lo) := by
  have := h.cut h1 (Nat.le_refl _)
  rwa [List.take_length] at this
theorem ByAt.take (h : ByAt B w A c l) {hi : Nat} (h1 : hi ≤ l.length) : ByAt B w A c (l.take hi) := by
  refine ⟨by have := h.le; simp; omega, ?_⟩
  rcases h.lies with rfl | ⟨b, off, rfl, hb, hw, hc⟩
  · exact .inl (by simp)
  · refine .inr ⟨b, off, rfl, hb, hw, fun j hj => ?_⟩
    rw [List.length_take] at hj
    rw [hc j (by omega)]
    simp
end

theorem sizeB (w : World) : (sizeOf (Tryz.prog.elem 33)).run Tryz.prog w = .ok 1 w := by kernel_rfl
theorem undB : Tryz.prog.underlying 33 = some (.slice (Tryz.prog.elem 33)) := by kernel_rfl

/-- The cut [lo:hi], [lo:], [:hi]. -/
theorem slice_lh (A : Option Addr) (n c lo hi : Nat) (h1 : lo ≤ hi) (h2 : hi ≤ c) (W : World) :
    (Instr.slice 33 (.slice A n c) (some (.int .i64 (lo : Int))) (some (.int .i64 (hi : Int))) none).run Tryz.prog W = .ok (.slice (offA A c lo) (hi - lo) (c - lo)) W := by
  rw [run_slice_lh W _ A n c undB .i64 .i64 lo hi (by omega) (by omega) (by omega), sizeB]
  rfl
theorem slice_l (A : Option Addr) (n c lo : Nat) (h1 : lo ≤ n) (W : World) :
    (Instr.slice 33 (.slice A n c) (some (.int .i64 (lo : Int))) none none).run Tryz.prog W = .ok (.slice (offA A c lo) (n - lo) (c - lo)) W := by
  rw [run_slice_l W _ A n c undB .i64 lo (by omega) (by omega), sizeB]
  rfl
theorem slice_h (A : Option Addr) (n c hi : Nat) (h1 : hi ≤ c) (W : World) :
    (Instr.slice 33 (.slice A n c) none (some (.int .i64 (hi : Int))) none).run Tryz.prog W = .ok (.slice A hi c) W := by
  rw [run_slice_h W _ A n c undB .i64 hi (by omega) (by omega), sizeB]
  have e : (if c = 0 then A else A.map (·.add (0 * 1))) = A := by
    split
    · rfl
    · rcases A with _ | ⟨b, o, s⟩ <;> simp [Addr.add]
  simp only [Result.andThen, sliced, e, Int.toNat_natCast, Nat.sub_zero]
theorem sliceAt_eq (x : Value) (lo hi mx : Option Value) (W : World) : (Instr.sliceAt 33 x lo hi mx).run Tryz.prog W = (Instr.slice 33 x lo hi mx).run Tryz.prog W := run_sliceAt_slice W _ _ _ _ _ undB

/-- The string of a slice of bytes. -/
theorem convS (B : Nat) (w : World) (A : Option Addr) (c n : Nat) (l : List UInt8) (h : ByAt B w A c l) (hn : l.length = n) :
    (convert 33 9 (.slice A n c)).run Tryz.prog w = .ok (.string ⟨l.toArray⟩) w := by
  subst hn
  rcases h.lies with rfl | ⟨b, off, rfl, _, _, hc⟩
  · exact run_convert_bytes_zero w 33 5 Tryz.underlying33 Tryz.underlying5 A c 9 Tryz.underlying9
  · exact run_convert_bytes_back w 33 9 5 ⟨b, off, none⟩ c l Tryz.underlying33 Tryz.underlying5 Tryz.underlying9 (fun j hj => by rw [Addr.add_lit]; exact hc j hj)

theorem bytesRow_reads (s : ByteArray) (cap : Nat) (w : World) (g : Nat) (fr : Nat × Nat) (h : w.heap[g]? = some (.cells (bytesRow s cap) 5 fr)) (hc : s.size ≤ cap) : ByAt w.heap.size w (some ⟨g, 0, none⟩) cap s.data.toList := by
  have hg := (Array.getElem?_eq_some_iff.1 h).1
  refine ⟨by rw [Array.length_toList]; exact hc, .inr ⟨g, 0, rfl, hg, hg, fun j hj => ?_⟩⟩
  rw [Array.length_toList] at hj
  rw [Nat.zero_add, cell_of_row w g j _ _ _ h, bytesRow_at s cap j hj]
  simp
/-- '[]byte(s)': a new row that reads as the string's bytes. -/
theorem convB (w : World) (s : ByteArray) (m : Nat) (hm : s.size = m) : ∃ cap w', (convert 9 33 (.string s)).run Tryz.prog w = .ok (.slice (some ⟨w.heap.size, 0, none⟩) m cap) w' ∧ Below w.heap.size w w' ∧ ByAt w'.heap.size w' (some ⟨w.heap.size, 0, none⟩) cap s.data.toList ∧ m ≤ cap ∧ w'.heap.size = w.heap.size + 1 ∧
    w'.heap[w.heap.size]? = some (.cells (bytesRow s cap) 5 ((bytesRow s cap).size, (bytesRow s cap).size + 1)) := by
  subst hm
  have hr := run_bytes_of_string (P := Tryz.prog) w 9 33 5 s Tryz.underlying9 Tryz.underlying33 Tryz.underlying5
  have hc := grownCap_ge w s.size 0 5
  generalize grownCap w s.size 0 5 = cap at hr hc
  have hn := heap_alloc_new w.drew (.cells (bytesRow s cap) 5 ((bytesRow s cap).size, (bytesRow s cap).size + 1))
  exact ⟨cap, _, hr, (Below.refl w.heap.size w).drew.alloc (Nat.le_refl _) _, bytesRow_reads s cap _ _ _ hn hc, hc, World.size_alloc _ _, hn⟩
end Go.Proofs.YthdbbappojkmoaaGreat

namespace Go.Proofs.YthdbbappojkmoaaGreat
open Go.RowKit

/-- The class of atom bytes. -/
def atomN (n : Nat) : Bool := decide (32 < n ∧ n < 127 ∧ n ≠ 34 ∧ n ≠ 37 ∧ n ≠ 40 ∧ n ≠ 41 ∧ n ≠ 42 ∧ n ≠ 92 ∧ n ≠ 93 ∧ n ≠ 123)
/-- The class of tag bytes. -/
def tagN (n : Nat) : Bool := decide (n = 93 ∨ 32 < n ∧ n < 127 ∧ n ≠ 34 ∧ n ≠ 37 ∧ n ≠ 40 ∧ n ≠ 41 ∧ n ≠ 42 ∧ n ≠ 92 ∧ n ≠ 123 ∧ n ≠ 43)
/-- The class of text bytes. -/
def textN (n : Nat) : Bool := decide (0 < n ∧ n < 128 ∧ n ≠ 10 ∧ n ≠ 13)
/-- The bit of a byte in four words. -/
def bitAt (a b c d : Int) (n : Nat) : Bool := bits BinOp.and IntKind.u64 ((if n / 64 = 0 then a else if n / 64 = 1 then b else if n / 64 = 2 then c else d) / 2 ^ (n % 64)) 1 == 1

theorem atom_bit : ∀ n : Fin 256, bitAt 18446736213919399936 8646911283746045951 0 0 n.val = atomN n.val := by decide +kernel
theorem tag_bit : ∀ n : Fin 256, bitAt 18446727417826377728 8646911284282916863 0 0 n.val = tagN n.val := by decide +kernel
theorem text_bit : ∀ n : Fin 256, bitAt 18446744073709542398 18446744073709551615 0 0 n.val = textN n.val := by decide +kernel

/-- A capital letter in the place of a small one. -/
def upN (n : Nat) : Nat := if 97 ≤ n ∧ n ≤ 122 then n - 32 else n
def upB (c : UInt8) : UInt8 := UInt8.ofNat (upN c.toNat)
def upL (l : List UInt8) : List UInt8 := l.map upB
theorem upN_lt {n : Nat} (h : n < 256) : upN n < 256 := by unfold upN; split <;> omega
theorem upB_toNat (c : UInt8) : (upB c).toNat = upN c.toNat := by
  unfold upB; rw [UInt8.toNat_ofNat']; exact Nat.mod_eq_of_lt (upN_lt c.toNat_lt)
theorem upN_upN (n : Nat) : upN (upN n) = upN n := by unfold upN; split <;> (try split) <;> omega
theorem upB_upB (c : UInt8) : upB (upB c) = upB c := by
  apply UInt8.toNat_inj.1; rw [upB_toNat, upB_toNat, upN_upN]
theorem upL_upL (l : List UInt8) : upL (upL l) = upL l := by
  unfold upL; rw [List.map_map]; exact List.map_congr_left fun c _ => upB_upB c
theorem upL_length (l : List UInt8) : (upL l).length = l.length := by simp [upL]
end Go.Proofs.YthdbbappojkmoaaGreat

namespace Go.Proofs.YthdbbappojkmoaaGreat
open Go.RowKit Go.Maps

/-- The name of a flag. -/
def nameF (f : Nat) : List UInt8 :=
  if f = 1 then [92, 65, 110, 115, 119, 101, 114, 101, 100] else if f = 2 then [92, 70, 108, 97, 103, 103, 101, 100] else if f = 4 then [92, 68, 101, 108, 101, 116, 101, 100]
  else if f = 8 then [92, 83, 101, 101, 110] else if f = 16 then [92, 68, 114, 97, 102, 116] else []
def strD (l : List UInt8) : DataW Unit := .lit (.string l)
def flgD (f : Nat) : DataW Unit := .lit (.int .u8 (f : Int))
/-- The map of names, as it reads. -/
def nmD : DataW Unit := (((((DataW.map []).put (.int .u8 1) (strD (nameF 1))).put (.int .u8 2) (strD (nameF 2))).put (.int .u8 4) (strD (nameF 4))).put (.int .u8 8) (strD (nameF 8))).put (.int .u8 16) (strD (nameF 16))
/-- The flag of a name in capital letters, or 0. -/
def flagU (l : List UInt8) : Nat :=
  if l = upL (nameF 1) then 1 else if l = upL (nameF 2) then 2 else if l = upL (nameF 4) then 4 else if l = upL (nameF 8) then 8 else if l = upL (nameF 16) then 16 else 0
/-- The flag of a name in letters of any case, or 0. -/
def flagL (l : List UInt8) : Nat := flagU (upL l)
/-- As the reference says it: -1 for none. -/
def refO : Option Nat → Int
  | some x => x
  | none => -1
/-- The single flags. -/
def ones : List Nat := [1, 2, 4, 8, 16]
def eachL (f : Nat) : List Nat := ones.filter fun o => f &&& o != 0

theorem ones_mem {x : Nat} : x ∈ ones ↔ x = 1 ∨ x = 2 ∨ x = 4 ∨ x = 8 ∨ x = 16 := by simp [ones]

theorem isMap_nm : IsMap nmD := ((((isMap_empty.put _ _).put _ _).put _ _).put _ _).put _ _
/-- What stands in the map of names at a number. -/
theorem nm_at (x : Int) (z : DataW Unit) : nmD.atKey (.int .u8 x) z = if x = 1 then strD (nameF 1) else if x = 2 then strD (nameF 2) else if x = 4 then strD (nameF 4) else if x = 8 then strD (nameF 8) else if x = 16 then strD (nameF 16) else z := by
  have hne : ∀ {a b : Int}, a ≠ b → Lit.int IntKind.u8 a ≠ .int .u8 b := fun h e => by injection e; contradiction
  by_cases h1 : x = 1
  · subst h1; rfl
  by_cases h2 : x = 2
  · subst h2; rfl
  by_cases h4 : x = 4
  · subst h4; rfl
  by_cases h8 : x = 8
  · subst h8; rfl
  by_cases h16 : x = 16
  · subst h16; rfl
  rw [if_neg h1, if_neg h2, if_neg h4, if_neg h8, if_neg h16]
  unfold nmD
  rw [atKey_put_other (hne h16), atKey_put_other (hne h8), atKey_put_other (hne h4), atKey_put_other (hne h2), atKey_put_other (hne h1)]
  rfl
theorem nm_name (x : Nat) : nmD.atKey (.int .u8 (x : Int)) (strD []) = strD (nameF x) := by
  rw [nm_at]
  by_cases h1 : x = 1
  · subst h1; rfl
  by_cases h2 : x = 2
  · subst h2; rfl
  by_cases h4 : x = 4
  · subst h4; rfl
  by_cases h8 : x = 8
  · subst h8; rfl
  by_cases h16 : x = 16
  · subst h16; rfl
  rw [if_neg (by omega), if_neg (by omega), if_neg (by omega), if_neg (by omega), if_neg (by omega)]
  unfold nameF
  rw [if_neg h1, if_neg h2, if_neg h4, if_neg h8, if_neg h16]
/-- What has come out of the map of names. -/
theorem nm_found {x : Int} {c : List UInt8} (hat : ∀ zd, nmD.atKey (.int .u8 x) zd = strD c) : ∃ f : Nat, x = (f : Int) ∧ f ∈ ones ∧ c = nameF f := by
  have h1 := hat (flgD 0)
  rw [nm_at] at h1
  have inj : ∀ {a b : List UInt8}, strD a = strD b → b = a := fun h => by unfold strD at h; injection h with h; injection h with h; exact h.symm
  split at h1
  · rename_i e; exact ⟨1, e, by decide, inj h1⟩
  split at h1
  · rename_i e; exact ⟨2, e, by decide, inj h1⟩
  split at h1
  · rename_i e; exact ⟨4, e, by decide, inj h1⟩
  split at h1
  · rename_i e; exact ⟨8, e, by decide, inj h1⟩
  split at h1
  · rename_i e; exact ⟨16, e, by decide, inj h1⟩
  unfold flgD strD at h1
  cases h1

theorem flagU_name {f : Nat} (hf : f ∈ ones) : flagU (upL (nameF f)) = f := by
  rcases ones_mem.1 hf with rfl | rfl | rfl | rfl | rfl <;> decide
theorem flagU_is (l : List UInt8) : flagU l = 0 ∨ (flagU l ∈ ones ∧ l = upL (nameF (flagU l))) := by
  unfold flagU
  split
  · rename_i h; exact .inr ⟨by decide, h⟩
  split
  · rename_i h; exact .inr ⟨by decide, h⟩
  split
  · rename_i h; exact .inr ⟨by decide, h⟩
  split
  · rename_i h; exact .inr ⟨by decide, h⟩
  split
  · rename_i h; exact .inr ⟨by decide, h⟩
  · exact .inl rfl
theorem flagU_eq {l : List UInt8} {f : Nat} (hf : f ∈ ones) : flagU l = f ↔ l = upL (nameF f) := by
  constructor
  · intro h
    rcases flagU_is l with h0 | ⟨_, h1⟩
    · rw [h0] at h; subst h; simp [ones] at hf
    · rw [h] at h1; exact h1
  · rintro rfl; exact flagU_name hf

/-- The map of flags while it is filled: what is no longer to come is in it. -/
def FlagsInv (D : DataW Unit) (left : Lit → Bool) : Prop :=
  IsMap D ∧ ∀ l z, D.atKey (.string l) z = if flagU l ≠ 0 ∧ left (.int .u8 (flagU l : Int)) = false then flgD (flagU l) else z
/-- The map of flags. -/
def FlagsD (D : DataW Unit) : Prop := ∀ l z, D.atKey (.string l) z = if flagU l ≠ 0 then flgD (flagU l) else z

theorem flags_start : FlagsInv (.map []) (has nmD) := by
  refine ⟨isMap_empty, fun l z => ?_⟩
  rw [if_neg]
  · rfl
  · rintro ⟨h0, h1⟩
    rcases flagU_is l with h | ⟨h, _⟩
    · exact h0 h
    · rcases ones_mem.1 h with e | e | e | e | e <;> (rw [e] at h1; revert h1; decide)
theorem flags_step {D : DataW Unit} {left : Lit → Bool} {f : Nat} (hf : f ∈ ones) (h : FlagsInv D left) :
    FlagsInv (D.put (.string (upL (nameF f))) (flgD f)) (fun z => left z && !z.sameKey (.int .u8 (f : Int))) := by
  refine ⟨h.1.put _ _, fun l z => ?_⟩
  by_cases e : l = upL (nameF f)
  · have h0 : flagU l = f := (flagU_eq hf).2 e
    have hs : (Lit.int .u8 (f : Int)).sameKey (.int .u8 (f : Int)) = true := by simp [Lit.sameKey]
    have hne : f ≠ 0 := by rintro rfl; simp [ones] at hf
    rw [h0, if_pos ⟨hne, by simp only [hs]; simp⟩, e]
    exact atKey_put_same h.1 (by simp [WideAt.IsKeyLit]) _ _
  · rw [atKey_put_other (fun h => e (by injection h)), h.2 l z]
    by_cases h0 : flagU l = 0
    · rw [if_neg (fun h => h.1 h0), if_neg (fun h => h.1 h0)]
    · have hne : (flagU l : Int) ≠ f := fun h => e ((flagU_eq hf).1 (by omega))
      have hs : (Lit.int .u8 (flagU l : Int)).sameKey (.int .u8 (f : Int)) = false := by simp [Lit.sameKey]; omega
      simp only [hs]
      simp
theorem flags_end {D : DataW Unit} {left : Lit → Bool} (h : FlagsInv D left) (hl : ∀ kl, left kl = false) : FlagsD D := fun l z => by
  rw [h.2 l z]
  simp [hl]
theorem FlagsD.has {D : DataW Unit} (h : FlagsD D) (l : List UInt8) : Maps.has D (.string l) = decide (flagU l ≠ 0) := by
  by_cases h0 : flagU l = 0
  · rw [has_false_of_atKey (fun z => by rw [h l z, if_neg (by simpa using h0)])]
    simp [h0]
  · rw [has_true_of_atKey (fun z => by rw [h l z, if_pos h0])]
    simp [h0]
theorem FlagsD.at {D : DataW Unit} (h : FlagsD D) {l : List UInt8} {c : Int} (hat : D.atKey (.string l) (.lit (.int .u8 0)) = .lit (.int .u8 c)) : c = (flagU l : Int) := by
  rw [h l] at hat
  split at hat
  · unfold flgD at hat; injection hat with hat; injection hat with _ hat; exact hat.symm
  · rename_i h0
    injection hat with hat
    injection hat with _ hat
    have : flagU l = 0 := by simpa using h0
    rw [this]; exact hat.symm
end Go.Proofs.YthdbbappojkmoaaGreat

namespace Go.Proofs.YthdbbappojkmoaaGreat
open Go.RowKit Go.Maps

theorem ofInt_i64 (a : Nat) (ha : a < 18446744073709551616) : (BitVec.ofInt 64 (a : Int)).toNat = a := by
  rw [BitVec.ofInt_natCast, BitVec.toNat_ofNat]; exact Nat.mod_eq_of_lt (by omega)
theorem wrap_i64_nat (a : Nat) (ha : a < 256) : IntKind.i64.wrap (a : Int) = (a : Int) := by
  have h : (a : Int) % 18446744073709551616 = a := by omega
  simp only [IntKind.wrap, IntKind.bits, IntKind.signed, Bool.true_and, Int.reducePow, Nat.reduceSub, ge_iff_le, h, decide_eq_true_eq]
  rw [if_neg (by omega)]
theorem i64_and_nat (a b : Nat) (ha : a < 256) (hb : b < 256) : bits .and .i64 (a : Int) (b : Int) = ((a &&& b : Nat) : Int) := by
  have hx : a &&& b < 2 ^ 8 := Nat.and_lt_two_pow _ (by omega)
  show IntKind.i64.wrap ((BitVec.ofInt 64 (a : Int) &&& BitVec.ofInt 64 (b : Int)).toNat : Int) = _
  rw [BitVec.toNat_and, ofInt_i64 a (by omega), ofInt_i64 b (by omega)]
  exact wrap_i64_nat _ hx
theorem i64_or_nat (a b : Nat) (ha : a < 256) (hb : b < 256) : bits .or .i64 (a : Int) (b : Int) = ((a ||| b : Nat) : Int) := by
  have hx : a ||| b < 2 ^ 8 := Nat.or_lt_two_pow (by omega) (by omega)
  show IntKind.i64.wrap ((BitVec.ofInt 64 (a : Int) ||| BitVec.ofInt 64 (b : Int)).toNat : Int) = _
  rw [BitVec.toNat_or, ofInt_i64 a (by omega), ofInt_i64 b (by omega)]
  exact wrap_i64_nat _ hx
theorem bit64_yes {f o : Nat} (hf : f < 256) (ho : o < 256) (h : f &&& o = 0) : (bits BinOp.and IntKind.i64 (f : Int) (o : Int) == 0) = true := by
  rw [i64_and_nat f o hf ho, h]; rfl
theorem bit64_no {f o : Nat} (hf : f < 256) (ho : o < 256) (h : f &&& o ≠ 0) : (bits BinOp.and IntKind.i64 (f : Int) (o : Int) == 0) = false := by
  rw [i64_and_nat f o hf ho]
  simp only [beq_eq_false_iff_ne, ne_eq, Int.natCast_eq_zero]
  exact h
theorem not31 : ∀ a b : Fin 32, a.val &&& (18446744073709551615 - b.val) = a.val &&& (255 - b.val) := by decide +kernel
theorem i64_andNot_nat (a b : Nat) (ha : a < 32) (hb : b < 32) : bits .andNot .i64 (a : Int) (b : Int) = ((a &&& (255 - b) : Nat) : Int) := by
  have hx : a &&& (255 - b) < 2 ^ 8 := Nat.and_lt_two_pow _ (by omega)
  show IntKind.i64.wrap ((BitVec.ofInt 64 (a : Int) &&& ~~~BitVec.ofInt 64 (b : Int)).toNat : Int) = _
  rw [BitVec.toNat_and, BitVec.toNat_not, ofInt_i64 a (by omega), ofInt_i64 b (by omega)]
  have e : 2 ^ 64 - 1 - b = 18446744073709551615 - b := by omega
  rw [e, not31 ⟨a, ha⟩ ⟨b, hb⟩]
  exact wrap_i64_nat _ hx

/-- What a change leads to. -/
def changeO (old : Nat) (mode : Int) (f : Nat) : Option Nat :=
  if 31 < old ∨ 31 < f then none else if mode = 0 then some f else if mode = 1 then some (old ||| f) else if mode = 2 then some (old &&& (255 - f)) else none
theorem high1 : ∀ a : Fin 256, a.val &&& 224 = 0 ↔ a.val ≤ 31 := by decide +kernel
theorem high_or (a b : Nat) (ha : a < 256) (hb : b < 256) : ((a ||| b) &&& 224 = 0) ↔ (a ≤ 31 ∧ b ≤ 31) := by
  rw [Nat.and_or_distrib_right, Nat.or_eq_zero_iff, high1 ⟨a, ha⟩, high1 ⟨b, hb⟩]

/-- How a function's value reads: by its number. -/
def fnElem : Value → Option (DataW Unit × List MemPlace)
  | .nilFunc => some (.nil, [])
  | .func (.func n) a b => if a.size = 0 ∧ b.size = 0 then some (.lit (.int .i64 n), []) else none
  | _ => none
theorem fnElem_nil {v : Value} {ps : List MemPlace} (h : fnElem v = some (.nil, ps)) : v = .nilFunc := by
  unfold fnElem at h
  split at h
  · rfl
  · split at h <;> simp at h
  · cases h
theorem fnElem_fn {v : Value} {n : Nat} {ps : List MemPlace} (h : fnElem v = some (.lit (.int .i64 n), ps)) : v = .func (.func n) #[] #[] := by
  unfold fnElem at h
  split at h
  · simp at h
  · rename_i m a b
    split at h
    · rename_i hs
      simp at h
      obtain ⟨h, _⟩ := h
      have ha : a = #[] := by apply Array.eq_empty_of_size_eq_zero hs.1
      have hb : b = #[] := by apply Array.eq_empty_of_size_eq_zero hs.2
      subst ha hb
      first
        | (subst h; rfl)
        | (have hm : m = n := Int.ofNat.inj h; subst hm; rfl)
    · cases h
  · cases h
def fnD (n : Nat) : DataW Unit := .lit (.int .i64 (n : Int))
end Go.Proofs.YthdbbappojkmoaaGreat

namespace Go.Proofs.YthdbbappojkmoaaGreat
open Go.RowKit

/-- A message. -/
structure MsgP where
  u : Nat
  f : Nat
  b : List UInt8
/-- A mailbox: stripes, capacity, the counter's first and next identifier, messages, subscribers with their events. -/
structure StP where
  n : Nat
  cap : Nat
  first : Nat
  next : Nat
  ms : List MsgP
  sub : Int → Option (List EvI)
def tellP (by_ : Int) (e : EvI) (sub : Int → Option (List EvI)) : Int → Option (List EvI) := fun i => (sub i).map fun q => if i = by_ then q else q ++ [e]
def newP (n cap nx : Nat) : StP := ⟨n, cap, max nx 1, max nx 1, [], fun _ => none⟩
def uidsP (st : StP) : List Nat := st.ms.map (·.u)
def appP (st : StP) (f : Nat) (b : List UInt8) : StP × Nat × Int :=
  if 31 < f ∨ 65536 < b.length then (st, 0, 2) else if st.cap ≤ st.ms.length then (st, 0, 5) else if 4294967295 ≤ st.next then (st, 0, 6) else
    ({ st with next := st.next + 1, ms := st.ms ++ [⟨st.next, f, b⟩], sub := tellP (-1) ⟨1, st.next, 0⟩ st.sub }, st.next, 0)
def fndP (ms : List MsgP) (u : Nat) : Option MsgP := ms.find? fun m => decide (m.u = u)
def chgP (st : StP) (by_ : Int) (u : Nat) (mode : Int) (f : Nat) : StP × Nat × Int :=
  match fndP st.ms u with
  | none => (st, 0, 7)
  | some m => match changeO m.f mode f with
    | none => (st, 0, 2)
    | some x => ({ st with ms := st.ms.map fun y => if y.u = u then { y with f := x } else y, sub := if x = m.f then st.sub else tellP by_ ⟨3, u, x⟩ st.sub }, x, 0)
def isDel (m : MsgP) : Bool := decide (m.f &&& 4 = 4)
def goneP (st : StP) : List Nat := (st.ms.filter isDel).map (·.u)
def expP (st : StP) : StP := { st with ms := st.ms.filter fun m => !isDel m, sub := fun i => (st.sub i).map (· ++ (goneP st).map fun u => (⟨2, (u : Nat), 0⟩ : EvI)) }
def subP (st : StP) (id : Int) : StP × Int :=
  if id < 0 then (st, 2) else if (st.sub id).isSome = true then (st, 8) else ({ st with sub := fun i => if i = id then some [] else st.sub i }, 0)
def unsubP (st : StP) (id : Int) : StP := { st with sub := fun i => if i = id then none else st.sub i }
def evsP (st : StP) (id : Int) : List EvI := (st.sub id).getD []
def flushP (st : StP) (id : Int) (gone : Bool) : StP := { st with sub := fun i => if i = id then (st.sub i).map (restE gone) else st.sub i }
/-- Few subscribers. -/
def fewP (st : StP) : Prop := ∃ K : List Int, K.length ≤ 100000 ∧ ∀ i, (st.sub i).isSome = true → i ∈ K
theorem fewP.new (n cap nx : Nat) : fewP (newP n cap nx) := ⟨[], Nat.zero_le _, fun i e => by cases e⟩
/-- No subscriber has many events. -/
def smallP (st : StP) (N : Nat) : Prop := ∀ i q, st.sub i = some q → q.length ≤ N
theorem smallP.mono {st : StP} {N M : Nat} (h : smallP st N) (hm : N ≤ M) : smallP st M := fun i q e => Nat.le_trans (h i q e) hm
theorem smallP.app {st : StP} {N : Nat} (h : smallP st N) (f : Nat) (b : List UInt8) : smallP (appP st f b).1 (N + 1) := by
  unfold appP
  split
  · exact h.mono (by omega)
  · split
    · exact h.mono (by omega)
    · split
      · exact h.mono (by omega)
      · intro i q e
        simp only [tellP, Option.map_eq_some_iff] at e
        obtain ⟨q0, h0, rfl⟩ := e
        have := h i q0 h0
        split
        · omega
        · rw [List.length_append]
          simp
          omega
theorem smallP.chg {st : StP} {N : Nat} (h : smallP st N) (by_ : Int) (u : Nat) (mode : Int) (f : Nat) : smallP (chgP st by_ u mode f).1 (N + 1) := by
  unfold chgP
  split
  · exact h.mono (by omega)
  · split
    · exact h.mono (by omega)
    · intro i q e
      simp only at e
      split at e
      · have := h i q e
        omega
      · simp only [tellP, Option.map_eq_some_iff] at e
        obtain ⟨q0, h0, rfl⟩ := e
        have := h i q0 h0
        split
        · omega
        · rw [List.length_append]
          simp
          omega
theorem smallP.exp {st : StP} {N : Nat} (h : smallP st N) : smallP (expP st) (N + st.ms.length) := by
  intro i q e
  simp only [expP, Option.map_eq_some_iff] at e
  obtain ⟨q0, h0, rfl⟩ := e
  have := h i q0 h0
  have h2 := List.length_filter_le isDel st.ms
  rw [List.length_append, List.length_map, goneP, List.length_map]
  omega
theorem smallP.flush {st : StP} {N : Nat} (h : smallP st N) (id : Int) (gone : Bool) : smallP (flushP st id gone) N := by
  intro i q e
  simp only [flushP] at e
  split at e
  · rw [Option.map_eq_some_iff] at e
    obtain ⟨q0, h0, rfl⟩ := e
    exact Nat.le_trans (restE_len gone q0) (h i q0 h0)
  · exact h i q e
theorem smallP.sub {st : StP} {N : Nat} (h : smallP st N) (id : Int) : smallP (subP st id).1 N := by
  unfold subP
  split
  · exact h
  · split
    · exact h
    · intro i q e
      simp only at e
      split at e
      · obtain rfl := Option.some.inj e
        exact Nat.zero_le _
      · exact h i q e
end Go.Proofs.YthdbbappojkmoaaGreat

namespace Go.Proofs.YthdbbappojkmoaaGreat
open Go.RowKit

/-- What a subscriber does with an event. -/
def folE (l : List Nat) (e : EvI) : List Nat := if e.k = 1 then l ++ [e.u] else if e.k = 2 then l.filter (fun u => !decide (u = e.u)) else l
theorem folE_len (l : List Nat) (e : EvI) : (folE l e).length ≤ l.length + 1 := by
  unfold folE
  split
  · simp
  · split
    · exact Nat.le_succ_of_le (List.length_filter_le _ _)
    · omega
theorem folE_fold_len : ∀ (q : List EvI) (l : List Nat), (q.foldl folE l).length ≤ l.length + q.length
  | [], l => by simp
  | e :: q, l => by
    have := folE_fold_len q (folE l e)
    have := folE_len l e
    simp only [List.foldl_cons, List.length_cons]
    omega
theorem folE_mem {l : List Nat} {e : EvI} {u : Nat} (h : u ∈ folE l e) : u ∈ l ∨ u = e.u := by
  unfold folE at h
  split at h
  · simpa using h
  · split at h
    · exact .inl (List.mem_filter.1 h).1
    · exact .inl h
theorem sq_fold : ∀ (q : List EvI) (l : List Nat), (sqE q).foldl folE l = q.foldl folE l
  | [], l => rfl
  | e :: q, l => by
    rw [sqE]
    split
    next h =>
      rw [List.foldl_cons, sq_fold q l]
      have hk : e.k = 3 := by
        obtain ⟨y, _, hy⟩ := List.any_eq_true.1 h
        exact (of_decide_eq_true hy).1
      have : folE l e = l := by
        unfold folE
        rw [if_neg (by omega), if_neg (by omega)]
      rw [this]
    next h => rw [List.foldl_cons, List.foldl_cons, sq_fold q]
theorem told_all (q : List EvI) : toldE true q = q := by
  unfold toldE
  simp
theorem rest_all (q : List EvI) : restE true q = [] := by
  unfold restE
  simp
theorem gone_fold : ∀ (g l : List Nat), (g.map fun u => (⟨2, u, 0⟩ : EvI)).foldl folE l = l.filter fun u => !g.contains u
  | [], l => (List.filter_eq_self.2 fun u _ => rfl).symm
  | x :: g, l => by
    rw [List.map_cons, List.foldl_cons, gone_fold g]
    have : folE l ⟨2, x, 0⟩ = l.filter (fun u => !decide (u = x)) := by
      unfold folE
      rw [if_neg (show ¬ (2 : Int) = 1 by decide), if_pos rfl]
    rw [this, List.filter_filter]
    apply List.filter_congr
    intro u _
    rw [List.contains_cons]
    by_cases h : u = x
    · subst h
      simp
    · simp [h]
/-- Identifiers ascend. -/
def ascP (st : StP) : Prop := (st.ms.map (·.u)).Pairwise (· < ·)
theorem asc_inj : ∀ {ms : List MsgP}, (ms.map (·.u)).Pairwise (· < ·) → ∀ {x y : MsgP}, x ∈ ms → y ∈ ms → x.u = y.u → x = y
  | [], _, x, y, hx, _, _ => by cases hx
  | m :: ms, h, x, y, hx, hy, e => by
    rw [List.map_cons, List.pairwise_cons] at h
    rcases List.mem_cons.1 hx with e1 | hx
    · rcases List.mem_cons.1 hy with e2 | hy
      · rw [e1, e2]
      · have h2 : m.u < y.u := h.1 _ (List.mem_map_of_mem (f := fun z => z.u) hy)
        rw [e1] at e
        omega
    · rcases List.mem_cons.1 hy with e2 | hy
      · have h2 : m.u < x.u := h.1 _ (List.mem_map_of_mem (f := fun z => z.u) hx)
        rw [e2] at e
        omega
      · exact asc_inj h.2 hx hy e
theorem exp_fold {st : StP} (h : ascP st) : ((goneP st).map fun u => (⟨2, u, 0⟩ : EvI)).foldl folE (uidsP st) = uidsP (expP st) := by
  rw [gone_fold]
  unfold uidsP expP
  simp only
  rw [List.filter_map]
  congr 1
  apply List.filter_congr
  intro m hm
  simp only [Function.comp_apply, Bool.not_eq_eq_eq_not, Bool.not_not]
  have : (goneP st).contains m.u = isDel m := by
    cases hd : isDel m with
    | true =>
      rw [List.contains_iff_mem]
      exact List.mem_map.2 ⟨m, List.mem_filter.2 ⟨hm, hd⟩, rfl⟩
    | false =>
      cases hc : (goneP st).contains m.u with
      | false => rfl
      | true =>
        rw [List.contains_iff_mem] at hc
        obtain ⟨y, hy, e⟩ := List.mem_map.1 hc
        obtain ⟨hy, hd2⟩ := List.mem_filter.1 hy
        have := asc_inj h hy hm e
        subst this
        rw [hd] at hd2
        cases hd2
  rw [this]
/-- The list with the subscriber's events is that of the identifiers. -/
def FolI (own : Int) (l : List Nat) (st : StP) : Prop := ∃ q, st.sub own = some q ∧ q.foldl folE l = uidsP st
section
variable {own : Int} {l : List Nat} {st : StP}
theorem FolI.evs (h : FolI own l st) : (evsP st own).foldl folE l = uidsP st := by
  obtain ⟨q, h1, h2⟩ := h
  unfold evsP
  rw [h1]
  exact h2
theorem FolI.app (hw : own ≠ -1) (h : FolI own l st) (f : Nat) (b : List UInt8) : FolI own l (appP st f b).1 := by
  obtain ⟨q, h1, h2⟩ := h
  unfold appP
  split
  · exact ⟨q, h1, h2⟩
  · split
    · exact ⟨q, h1, h2⟩
    · split
      · exact ⟨q, h1, h2⟩
      · refine ⟨q ++ [⟨1, st.next, 0⟩], ?_, ?_⟩
        · simp only [tellP, h1, Option.map_some]
          rw [if_neg hw]
        · rw [List.foldl_append, h2]
          simp [folE, uidsP]
theorem map_u (ms : List MsgP) (u x : Nat) : (ms.map fun y => if y.u = u then { y with f := x } else y).map (·.u) = ms.map (·.u) := by
  rw [List.map_map]
  apply List.map_congr_left
  intro m _
  simp only [Function.comp_apply]
  split <;> rfl
theorem FolI.chg (h : FolI own l st) (by_ : Int) (u : Nat) (mode : Int) (f : Nat) : FolI own l (chgP st by_ u mode f).1 := by
  obtain ⟨q, h1, h2⟩ := h
  unfold chgP
  split
  · exact ⟨q, h1, h2⟩
  · split
    · exact ⟨q, h1, h2⟩
    · next m _ _ x _ =>
      by_cases hx : x = m.f
      · refine ⟨q, ?_, ?_⟩
        · simp only [if_pos hx, h1]
        · unfold uidsP
          rw [map_u]
          exact h2
      · by_cases ho : own = by_
        · refine ⟨q, ?_, ?_⟩
          · simp only [if_neg hx, tellP, h1, Option.map_some, if_pos ho]
          · unfold uidsP
            rw [map_u]
            exact h2
        · refine ⟨q ++ [⟨3, u, x⟩], ?_, ?_⟩
          · simp only [if_neg hx, tellP, h1, Option.map_some, if_neg ho]
          · unfold uidsP
            rw [map_u, List.foldl_append, h2]
            rfl
theorem FolI.exp (ha : ascP st) (h : FolI own l st) : FolI own l (expP st) := by
  obtain ⟨q, h1, h2⟩ := h
  refine ⟨q ++ (goneP st).map fun u => (⟨2, (u : Nat), 0⟩ : EvI), ?_, ?_⟩
  · simp only [expP, h1, Option.map_some]
  · rw [List.foldl_append, h2, exp_fold ha]
theorem FolI.flush (h : FolI own l st) : FolI own (uidsP st) (flushP st own true) := by
  obtain ⟨q, h1, h2⟩ := h
  refine ⟨[], ?_, rfl⟩
  simp only [flushP, if_pos, h1, Option.map_some, rest_all]
theorem FolI.start (st : StP) (hi : 0 ≤ own) (hn : st.sub own = none) : (subP st own).2 = 0 ∧ FolI own (uidsP st) (subP st own).1 := by
  unfold subP
  rw [if_neg (by omega), if_neg (by rw [hn]; simp)]
  exact ⟨rfl, [], by simp, rfl⟩
end
/-- A mailbox behind an append that is taken. -/
theorem app_ok {st : StP} {f : Nat} {b : List UInt8} (hf : f ≤ 31) (hb : b.length ≤ 65536) (hc : st.ms.length < st.cap) (hn : st.next < 4294967295) :
    appP st f b = ({ st with next := st.next + 1, ms := st.ms ++ [⟨st.next, f, b⟩], sub := tellP (-1) ⟨1, st.next, 0⟩ st.sub }, st.next, 0) := by
  unfold appP
  rw [if_neg (by omega), if_neg (by omega), if_neg (by omega)]
theorem app_full {st : StP} {f : Nat} {b : List UInt8} (hf : f ≤ 31) (hb : b.length ≤ 65536) (hc : st.cap ≤ st.ms.length) : appP st f b = (st, 0, 5) := by
  unfold appP
  rw [if_neg (by omega), if_pos hc]
theorem app_uid {st : StP} {f : Nat} {b : List UInt8} (hf : f ≤ 31) (hb : b.length ≤ 65536) (hc : st.ms.length < st.cap) (hn : 4294967295 ≤ st.next) : appP st f b = (st, 0, 6) := by
  unfold appP
  rw [if_neg (by omega), if_neg (by omega), if_pos hn]
theorem gone_exp (st : StP) : goneP (expP st) = [] := by
  unfold goneP expP
  simp only [List.filter_filter]
  have : (st.ms.filter fun m => isDel m && !isDel m) = [] := List.filter_eq_nil_iff.2 fun m _ => by simp
  rw [this]
  rfl
theorem gone_snoc {st st' : StP} {m : MsgP} (h : st'.ms = st.ms ++ [m]) : goneP st' = goneP st ++ if isDel m then [m.u] else [] := by
  unfold goneP
  rw [h, List.filter_append, List.map_append]
  congr 1
  cases hd : isDel m <;> simp [hd]
theorem stay_snoc {st st' : StP} {m : MsgP} (h : st'.ms = st.ms ++ [m]) : uidsP (expP st') = uidsP (expP st) ++ if isDel m then [] else [m.u] := by
  unfold uidsP expP
  simp only
  rw [h, List.filter_append, List.map_append]
  congr 1
  cases hd : isDel m <;> simp [hd]
theorem gone_asc {st : StP} (h : ascP st) : (goneP st).Pairwise (· < ·) := List.Pairwise.sublist (List.Sublist.map _ List.filter_sublist) h
/-- Nothing but mentions of the messages: an expunged mailbox without subscribers. -/
theorem none_app {st : StP} (h : ∀ i, st.sub i = none) (f : Nat) (b : List UInt8) : ∀ i, (appP st f b).1.sub i = none := by
  intro i
  unfold appP
  split
  · exact h i
  · split
    · exact h i
    · split
      · exact h i
      · simp [tellP, h i]
theorem none_exp {st : StP} (h : ∀ i, st.sub i = none) : ∀ i, (expP st).sub i = none := by
  intro i
  simp [expP, h i]
theorem small_none {st : StP} (h : ∀ i, st.sub i = none) (N : Nat) : smallP st N := fun i q e => by rw [h i] at e; cases e
end Go.Proofs.YthdbbappojkmoaaGreat
