/- flag: List. -/
import Derived.Test.YtchlmmglibladaaDoorFlagName
import Derived.Test.YtchlmmglibladaaDoorFlagEach
import Derived.Test.YtchlmmglibladaaDoorFlagLMath
import Derived.Shelf.Strings.OnBuilder
namespace Go.Proofs.YtchlmmglibladaaDoor
open Go.RowKit Go.Maps Go.Shelf

theorem infoS : (Tryd.prog.info? 9).map (fun i => (i.zero, i.size, i.bytes)) = some (some (.string ⟨#[]⟩), 1, 16) := by kernel_rfl
/-- A string's cells. -/
def encS (l : List UInt8) : List Value := [.string ⟨l.toArray⟩]
theorem encF_len (x : Nat) : (encF x).length = 1 := rfl
theorem encS_len (x : List UInt8) : (encS x).length = 1 := rfl
/-- A map's block is no row. -/
theorem map_ne_row {H : Type} {P : Program} {k : TypeId} {R : Value → Option (DataW H × List MemPlace)} {w : World} {b n : Nat} {D : DataW H} (hm : w.ownsMap P k R b n D) {base : Nat} {e : TypeId} {size m : Nat} {v : Value} {xs : List Value} (ho : w.ownsRow base e size v m xs) : some b ≠ v.ownBlock := by
  rcases ho.2 with ⟨rfl, _⟩ | ⟨g, cap, cur, rfl, _, hgb, _⟩
  · simp [Value.ownBlock]
  · intro e
    obtain rfl : b = g := by simpa [Value.ownBlock] using e
    obtain ⟨es, clock, hb, _⟩ := hm
    rw [hgb] at hb
    cases hb

theorem map_below {H : Type} {P : Program} {k : TypeId} {R : Value → Option (DataW H × List MemPlace)} {w w' : World} {b n : Nat} {D : DataW H} (hm : w.ownsMap P k R b n D) (hb : Below w.heap.size w w') : w'.ownsMap P k R b n D :=
  hm.kept (row := none) ⟨hb.os, hb.tape, hb.output, hb.size, fun k hk _ => hb.block k hk⟩ (by simp)

theorem SlAt.oneF {w : World} {A : Option Addr} {l : List Nat} (h : SlAt encF 1 w A l) {k : Nat} (hk : k < l.length) :
    ∃ b off, A = some ⟨b, off, none⟩ ∧ b < w.heap.size ∧ w.cell? ⟨b, off + k, none⟩ = some (.int .u8 (l[k] : Nat)) := by
  obtain ⟨b, off, rfl, hb, hc⟩ := h.at_ hk
  refine ⟨b, off, rfl, hb, ?_⟩
  have := hc 0 _ rfl
  simpa using this
theorem nm_str {x : Nat} {s : ByteArray} (h : nmD.atKey (.int .u8 (x : Int)) (.lit (.string [])) = .lit (.string s.data.toList)) : s = ⟨(nameF x).toArray⟩ := by
  rw [show (DataW.lit (.string []) : DataW Unit) = strD [] from rfl, nm_name] at h
  unfold strD at h
  injection h with h
  injection h with h
  exact str_of h.symm
theorem sp_len : ∀ (xs : List Nat), (spL (xs.map nameF)).length ≤ 10 * xs.length := by
  intro xs
  induction xs with
  | nil => simp [spL_nil]
  | cons x xs ih =>
    cases xs with
    | nil => rw [List.map_cons, List.map_nil, spL_one]; have := name_len x; simp; omega
    | cons y ys =>
      rw [List.map_cons, List.map_cons, spL_cons, ← List.map_cons]
      have := name_len x
      simp only [List.length_append, List.length_cons] at ih ⊢
      omega
theorem take_map (l : List Nat) (k : Nat) (h : k < l.length) : (l.take (k + 1)).map nameF = (l.take k).map nameF ++ [nameF l[k]] := by
  rw [List.take_succ_eq_append_getElem h, List.map_append]; rfl

set_option maxRecDepth 100000 in
set_option maxHeartbeats 2000000 in
theorem list_any (f : Nat) (hf : f < 256) (w : World) :
    Calls Tryd.prog 15 #[.int .u8 f] w fun e w' => e = .returned (.string ⟨(listL f).toArray⟩) ∧ Below w.heap.size w w' := by
  obtain ⟨i0, hi, hz0, hz1, hz2⟩ := info_parts infoS
  have N := Lib.hid (names_any w)
  have E := Lib.hid (fun w1 => each_any f hf w1)
  have hlE : (eachL f).length ≤ 5 := eachK_len f 5
  have HLL := Lib.hid (show listL f = 40 :: (spL ((eachL f).map nameF) ++ [41]) from rfl)
  have hones : ∀ x ∈ eachL f, x ∈ ones := fun x hx => eachL_ones hx
  generalize eachL f = l at *
  have HON := Lib.hid hones
  clear hones
  go_enter Tryd.func15, Tryd.ntmps15
  go_wp2_with fail
  refine N.out.mono ?_
  rintro e w1 ⟨rfl, hm, hb1⟩
  have HM := Lib.hid hm
  clear N hm
  go_wp2_with fail
  refine (E.out _).mono ?_
  rintro e w2 ⟨v2, rfl, hr, hb2⟩
  obtain ⟨A2, c2, rfl⟩ := own_any hr
  have HR := Lib.hid hr
  have HM2 := Lib.hid (map_below HM.out hb2)
  have hb := below_next hb1 hb2
  have hbw := hb.size
  clear hr HM hb1 hb2 E
  go_wp2_with fail
  go_loopw [4, 11] (fun v i wr => ∃ k : Nat, k ≤ l.length ∧ i = .int .i64 k ∧ wr.ownsRow w.heap.size 9 1 v ((l.take k).map nameF).length (flatL encS ((l.take k).map nameF)) ∧
      wr.ownsRow w1.heap.size 22 1 (.slice A2 l.length c2) l.length (flatL encF l) ∧ wr.ownsMap Tryd.prog 22 (plainElem Tryd.prog 9) w.heap.size 5 nmD ∧ Below w.heap.size w wr)
    (fun _ i _ => l.length - (intOf i).toNat)
  case atStart => exact ⟨0, Nat.zero_le _, rfl, World.ownsRow_nil _ _ _ _, HR.out, HM2.out, hb⟩
  case round =>
    obtain ⟨k, hk, rfl, hrow, hfl, hmp, hB⟩ := hrel
    by_cases hlt : k < l.length
    · obtain ⟨b, off, rfl, hbl, hc0⟩ := (SlAt.of_own encF_len hfl).oneF hlt
      have hx16 : l[k] ≤ 255 := by have := HON.out _ (List.getElem_mem hlt); rcases ones_mem.1 this with e | e | e | e | e <;> omega
      have HT := Lib.hid (take_map l k hlt)
      have HF := Lib.hid hfl
      have HP := Lib.hid hmp
      have hnl := name_len l[k]
      have hql : ((l.take k).map nameF).length ≤ 5 := by rw [List.length_map, List.length_take]; omega
      have hsB := hB.size
      clear hfl hmp HR HM2 hb
      generalize l[k] = x at *
      generalize (l.take k).map nameF = Q at *
      obtain ⟨A', c', rfl⟩ := own_any hrow
      go_wp2_with (first
        | (at_lookup; refine wpList_lookup_own_string _ rfl _ _ 38 rfl 22 9 keyF Tryd.underlying38 Tryd.underlying9 (zeroS _) w.heap.size 5 _ rfl HP.out _ _ rfl (kF x hx16) ?_; intro s hat; obtain rfl := nm_str hat; clear hat)
        | (at_builtin; refine wpList_append_own _ rfl _ _ 48 rfl w.heap.size 9 i0 _ 1 16 Tryd.underlying48 hi hz0 hz1 hz2 rfl (by decide) _ _ _ rfl (hrow.alloc _) ⟨wr.heap.size, 0, none⟩ 1 1 (encS (nameF x)) rfl rfl (cell_one_new _ _ _) (by intro u hu; simp [encS] at hu; subst hu; rfl) (by unfold maxLen; omega) (by omega) (by simp; omega) ?_; intro v' w8 hown' hgrow _))
      have hB8 := (hB.alloc hsB (.cells (encS (nameF x)).toArray 9)).grown hgrow (by simp; omega) (fun k hk => (hrow.lt k hk).1)
      have HN := Lib.hid hown'
      have HF8 := Lib.hid ((KeepsT.app hrow (T := 22) (by decide) hgrow).own HF.out)
      have HP8 := Lib.hid ((HP.out.alloc _).kept hgrow (map_ne_row HP.out hrow))
      clear hown' hgrow hrow HF HP hc0
      go_wp2
      go_roundw
      case rel => exact ⟨k + 1, by omega, by go_num, by rw [HT.out]; simpa [flatL, encS] using HN.out, HF8.out, HP8.out, hB8⟩
      case measure => simp [intOf]; omega
    · obtain rfl : k = l.length := by omega
      rw [List.take_length] at hrow
      have hls : (l.map nameF).length = l.length := List.length_map _
      by_cases hnil : l = []
      · subst hnil
        obtain ⟨A', c', rfl⟩ := own_any hrow
        have J := Lib.hid (Any.strings_Join_none Tryd.lays156 Tryd.Builder_Extra_156 A' c' ⟨#[32]⟩ wr)
        clear hrow hfl hmp HR HM2 hls
        go_wp2_with fail
        refine J.out.mono ?_
        rintro e w3 ⟨rfl, rfl⟩
        go_wp2_with fail
        go_ret
        exact ⟨ret_str (by rw [HLL.out]; rfl), hB⟩
      · have hpos : 0 < l.length := List.length_pos_iff.2 hnil
        rw [hls] at hrow
        obtain ⟨xs, hxs⟩ : ∃ xs : List ByteArray, xs = l.map fun x => ByteArray.mk (nameF x).toArray := ⟨_, rfl⟩
        have hxl : xs.length = l.length := by rw [hxs, List.length_map]
        have hxm : xs.map (fun x => x.data.toList) = l.map nameF := by rw [hxs, List.map_map]; rfl
        have hspl : (spL (l.map nameF)).length ≤ 50 := by
          have := sp_len l
          omega
        obtain ⟨g, cap, rfl, hg, hcap⟩ : ∃ g cap, u4 = .slice (some ⟨g, 0, none⟩) l.length cap ∧ g < wr.heap.size ∧ l.length ≤ cap := by
          rcases hrow.2 with ⟨rfl, h⟩ | ⟨g, cap, cur, rfl, h1, h2, h3, h4, h5, h6⟩
          · omega
          · exact ⟨g, cap, rfl, (Array.getElem?_eq_some_iff.1 h2).1, by first | exact h3 | exact h5 | omega⟩
        have J := Any.strings_Join Tryd.lays156 Tryd.Builder_Extra_156 g 0 cap xs ⟨#[32]⟩ wr (fun j x hx => by
          have h1 : (flatL encS (l.map nameF))[j]? = some (.string x) := by
            have h2 : (l.map nameF)[j]? = some x.data.toList := by rw [← hxm, List.getElem?_map, hx]; rfl
            have := flatL_at encS_len (l.map nameF) j _ h2 0 (.string x) (by simp [encS])
            simpa using this
          have := hrow.cells (g := g) rfl j _ h1
          rw [Addr.add_lit] at this
          exact this) hg (by omega) (by omega) (by rw [hxm]; show (spL (l.map nameF)).length ≤ _; omega)
        rw [hxl, hxm] at J
        have HJ := Lib.hid J
        have HS := Lib.hid (show Lib.join (l.map nameF) (ByteArray.mk #[32]).data.toList = spL (l.map nameF) from rfl)
        rw [HS.out] at HJ
        generalize spL (l.map nameF) = sp at *
        clear J hrow hfl hmp HR HM2 hls hxs hxl hxm HS
        go_wp2_with fail
        refine HJ.out.mono ?_
        rintro e w3 ⟨rfl, hb3⟩
        have hB3 := below_next hB hb3
        go_wp2_with fail
        go_ret
        refine ⟨ret_str (str_of ?_), hB3⟩
        rw [HLL.out]
        simp [ByteArray.data_append]
end Go.Proofs.YtchlmmglibladaaDoor
