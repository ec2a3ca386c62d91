import Derived.Test.YtpgfnlhfciacoaaGreatDoorPGc
import Derived.Test.YtpgfnlhfciacoaaGreatDoorPGv
import Derived.Deep.CutBlock
import Derived.Deep.CutRange
import Derived.Deep.DeepCutAuto
import Derived.BigRegion
set_option maxRecDepth 100000
set_option maxHeartbeats 2000000
open Go.Lib renaming hid → Hi
namespace Go.Proofs.YtpgfnlhfciacoaaGreatDoor
open Go.RowKit
theorem tag_any (n : Nat) (w : World) (h1 : n ≤ 255) :
 Calls Tryz.prog 67 #[.int .u8 n] w fun e w' => e = .returned (.bool (tagN n)) ∧ Below w.heap.size w w' := by
 have H0 := has_any n _ _ _ h1 (word_at 18446727417826377728 8646911284282916863 0 0 (.func (Fn.func 147) #[] #[.pointer (some ⟨w.heap.size, 0, none⟩)]) 151 148 w n h1)
 have hb : bitAt 18446727417826377728 8646911284282916863 0 0 n = tagN n := tag_bit ⟨n, by omega⟩
 unfold bitAt at hb
 rw [hb] at H0
 have H := Hi H0
 clear H0 hb
 have hf := fun (b : Nat) W => field_has b W
 go_enter Tryz.func67, Tryz.ntmps67
 go_wp2_with (first | (go_at_call 105; refine (classOf_any _ _ _ _ _).mono ?_; rintro e w' ⟨rfl, rfl⟩) | (go_at_call 147; refine H.out.mono ?_; rintro e w' ⟨rfl, rfl⟩))
 go_ret
 exact ⟨rfl, below_two _ _ _⟩
theorem refAtom_any (n : Nat) (w : World) (h1 : n ≤ 255) :
 Calls Tryz.prog 127 #[.int .u8 n] w fun e w' => e = .returned (.bool (atomN n)) ∧ w = w' := by
 by_cases hs : n = 40 ∨ n = 41 ∨ n = 123 ∨ n = 37 ∨ n = 42 ∨ n = 34 ∨ n = 92 ∨ n = 93
 · have hr : false = atomN n := by unfold atomN; simp; omega
   have R := Hi hr
   clear hr
   go_enter Tryz.func127, Tryz.ntmps127
   go_wp2
   all_goals first | (go_ret; exact ⟨YU R.out, rfl⟩) | (exfalso; omega)
 · have h2 : ¬ n = 40 := by omega
   have h3 : ¬ n = 41 := by omega
   have h4 : ¬ n = 123 := by omega
   have h5 : ¬ n = 37 := by omega
   have h6 : ¬ n = 42 := by omega
   have h7 : ¬ n = 34 := by omega
   have h8 : ¬ n = 92 := by omega
   have h9 : ¬ n = 93 := by omega
   clear hs
   by_cases ha : 32 < n
   · have R := Hi (show decide ((n : Int) < 127) = atomN n by unfold atomN; rw [decide_eq_decide]; omega)
     go_enter Tryz.func127, Tryz.ntmps127
     go_wp2
     go_ret
     exact ⟨YU R.out, rfl⟩
   · have R := Hi (show false = atomN n by unfold atomN; simp; omega)
     go_enter Tryz.func127, Tryz.ntmps127
     go_wp2
     go_ret
     exact ⟨YU R.out, rfl⟩
theorem refAtom_is (n : Nat) (w : World) (h1 : n ≤ 255) (b : Bool) (hb : atomN n = b) :
 Calls Tryz.prog 127 #[.int .u8 n] w fun e w' => e = .returned (.bool b) ∧ w = w' := by subst hb; exact refAtom_any n w h1
theorem refTag_any (n : Nat) (w : World) (h1 : n ≤ 255) :
 Calls Tryz.prog 84 #[.int .u8 n] w fun e w' => e = .returned (.bool (tagN n)) ∧ w = w' := by
 by_cases h93 : n = 93
 · subst h93
   have A := Hi (refAtom_is 93 w (by omega) false (by decide))
   go_enter Tryz.func84, Tryz.ntmps84
   go_wp2_with (go_at_call 127; refine A.out.mono ?_; rintro e w' ⟨rfl, rfl⟩)
   go_ret
   exact ⟨rfl, rfl⟩
 · by_cases h43 : n = 43
   · subst h43
     have A := Hi (refAtom_is 43 w (by omega) true (by decide))
     go_enter Tryz.func84, Tryz.ntmps84
     go_wp2_with (go_at_call 127; refine A.out.mono ?_; rintro e w' ⟨rfl, rfl⟩)
     go_ret
     exact ⟨rfl, rfl⟩
   · cases ha : atomN n with
     | true =>
       have A := Hi (refAtom_is n w h1 true ha)
       have R := Hi (show true = tagN n by unfold atomN at ha; unfold tagN; simp at ha; simp; omega)
       clear ha
       go_enter Tryz.func84, Tryz.ntmps84
       go_wp2_with (go_at_call 127; refine A.out.mono ?_; rintro e w' ⟨rfl, rfl⟩)
       go_ret
       exact ⟨YU R.out, rfl⟩
     | false =>
       have A := Hi (refAtom_is n w h1 false ha)
       have R := Hi (show false = tagN n by unfold atomN at ha; unfold tagN; simp at ha; simp; omega)
       clear ha
       go_enter Tryz.func84, Tryz.ntmps84
       go_wp2_with (go_at_call 127; refine A.out.mono ?_; rintro e w' ⟨rfl, rfl⟩)
       go_ret
       exact ⟨YU (by rw [← R.out]; simp; omega), rfl⟩
theorem all_false (g : Nat → Bool) (s : ByteArray) (k : Nat) (h : k < s.size) (hg : g s[k].toNat = false) : allL g s.data.toList = false := by
 unfold allL
 have : s.data.toList.all (fun c => g c.toNat) = false := by
  rw [List.all_eq_false]
  exact ⟨s[k], by simp [ByteArray.getElem_eq_getElem_data], by simp [hg]⟩
 rw [this, Bool.and_false]
theorem all_done (g : Nat → Bool) (s : ByteArray) (h : (s.data.toList.take s.size).all (fun c => g c.toNat) = true) : allL g s.data.toList = !s.toList.isEmpty := by
 rw [take_all] at h
 unfold allL
 rw [h, Bool.and_true, btl]
theorem all_any (F : FuncId) (g : Nat → Bool) (hF : ∀ n w, n ≤ 255 → Calls Tryz.prog F #[.int .u8 (n : Nat)] w fun e w' => e = .returned (.bool (g n)) ∧ Below w.heap.size w w')
 (hE : ∀ args w, (callFunc F args).run Tryz.prog w = .ok (.enter F args) w) (s : ByteArray) (hs : s.size ≤ 1000000000) (w : World) :
 Calls Tryz.prog 66 #[.string s, .func (Fn.func F) #[] #[]] w fun e w' => e = .returned (.bool (allL g s.data.toList)) ∧ Below w.heap.size w w' := by
 have HF := Hi hF
 clear hF
 go_enter Tryz.func66, Tryz.ntmps66
 go_wp2_with fail
 go_loopw [8] (fun i wr => ∃ k : Nat, k ≤ s.size ∧ i = .int .i64 k ∧ (s.data.toList.take k).all (fun c => g c.toNat) = true ∧ Below w.heap.size w wr) (fun i _ => s.size - (intOf i).toNat)
 case atStart => exact ⟨0, Nat.zero_le _, rfl, rfl, Below.refl _ _⟩
 case round =>
  obtain ⟨k, hk, rfl, ha, hb⟩ := hrel
  have HA := Hi ha
  clear ha
  by_cases hlt : k < s.size
  · have hn : s[k].toNat ≤ 255 := by have := s[k].toNat_lt; omega
    have C := Hi (HF.out s[k].toNat wr hn)
    cases hg : g s[k].toNat with
    | true =>
      have HG := Hi hg
      rw [hg] at C
      clear hg
      go_wp2_with fail
      refine C.out.mono ?_
      rintro e w' ⟨rfl, hb2⟩
      go_wp2
      go_roundw
      case rel => exact ⟨k + 1, by omega, by go_num, by rw [take_snocB s k hlt, List.all_append, HA.out, List.all_cons, HG.out]; rfl, below_step hb hb2 hb.size⟩
      case measure => simp [intOf]; omega
    | false =>
      have HG := Hi (all_false g s k hlt hg)
      rw [hg] at C
      clear hg
      go_wp2_with fail
      refine C.out.mono ?_
      rintro e w' ⟨rfl, hb2⟩
      go_wp2
      go_ret
      exact ⟨YU HG.out.symm, below_step hb hb2 hb.size⟩
  · obtain rfl : k = s.size := by omega
    have HG := Hi (all_done g s HA.out)
    go_wp2_with fail
    go_ret
    exact ⟨YU HG.out.symm, hb⟩
theorem tagO_no {l : List UInt8} (h : Lib.indexByte l 32 = -1) : tagO l = none := by
 unfold tagO
 rw [if_neg (fun hc => Lib.indexByte_none h _ hc.2)]
theorem tagO_at {l : List UInt8} {o : Nat} (h : Lib.indexByte l 32 = o) : tagO l = if allL tagN (l.take o) = true then some (l.take o) else none := by
 obtain ⟨h1, h2⟩ := Lib.indexByte_some h
 obtain ⟨hlt, he⟩ := List.getElem?_eq_some_iff.1 h1
 have hto : (l.take o).length = o := by rw [List.length_take]; omega
 by_cases ha : allL tagN (l.take o) = true
 · rw [if_pos ha]
   unfold allL at ha
   rw [Bool.and_eq_true] at ha
   have ht : tagL l = l.take o := takeWhile_at l o (by omega) ha.2 (fun h => by rw [he]; decide)
   unfold tagO
   rw [ht, hto, if_pos ⟨fun e => by rw [e] at ha; simp at ha, h1⟩]
 · rw [if_neg ha]
   unfold tagO
   rw [if_neg]
   rintro ⟨hne, h32⟩
   apply ha
   have hpre : tagL l <+: l := List.takeWhile_prefix _
   have hlen : (tagL l).length = o := by
    rcases Nat.lt_trichotomy (tagL l).length o with hl | hl | hl
    · exact absurd h32 (h2 _ hl)
    · exact hl
    · have hm : (tagL l)[o] ∈ tagL l := List.getElem_mem hl
      have hg : (tagL l)[o] = l[o] := List.IsPrefix.getElem hpre hl
      have hp : tagN (tagL l)[o].toNat = true := by
       have := List.all_takeWhile (p := fun c : UInt8 => tagN c.toNat) (l := l)
       exact List.all_eq_true.1 this _ hm
      rw [hg, he] at hp
      exact absurd hp (by decide)
   have hte : tagL l = l.take o := by rw [← hlen]; exact List.prefix_iff_eq_take.1 hpre
   unfold allL
   rw [← hte, Bool.and_eq_true]
   refine ⟨?_, List.all_takeWhile⟩
   cases hh : tagL l with
   | nil => exact absurd hh hne
   | cons a b => rfl
theorem idx32_any (B : Nat) (A : Option Addr) (c : Nat) (l : List UInt8) (n : Nat) (hn : l.length = n) (w : World) (hA : ByAt B w A c l) :
 Calls Tryz.prog 143 #[.slice A n c, .int .u8 32] w fun e w' => e = .returned (.int .i64 (Lib.indexByte l 32)) ∧ w = w' := by
 have hrun : (Extern.BytealgIndexByte.indexByte #[.slice A n c, .int .u8 32]).run Tryz.prog w = .ok (.int .i64 (Lib.indexByte l 32)) w := by
  rcases hA.lies with rfl | ⟨b, off, rfl, _, _, hc⟩
  · subst hn
    rcases A with _ | a
    · exact Lib.run_indexByteNil w 0 c 32
    · exact Lib.run_indexByteAt (P := Tryz.prog) w a 0 c [] rfl (fun i hi => absurd hi (Nat.not_lt_zero _)) 32
  · have := Lib.run_indexByteSlice (P := Tryz.prog) w b off n c (l.map fun x => (x.toNat : Int)) (by rw [List.length_map, hn]) (fun i hi => by
     rw [hc i (by omega)]
     simp [List.getD_eq_getElem?_getD, List.getElem?_eq_getElem (show i < l.length by omega)]) 32
    have e : Lib.bytesOf (l.map fun x => (x.toNat : Int)) = l := by
     unfold Lib.bytesOf
     rw [List.map_map]
     conv => rhs; rw [← List.map_id l]
     exact List.map_congr_left fun x _ => by simp
    rw [e] at this
    exact this
 generalize Lib.indexByte l 32 = r at *
 have HR := Hi hrun
 clear hrun hA
 go_enter Tryz.func143, Tryz.ntmps143
 go_wp2
 rw [run_callFunc_extern Tryz.func174 (by kernel_rfl) (by kernel_rfl) (by kernel_rfl) (e := Extern.BytealgIndexByte.indexByte) (by kernel_rfl), HR.out]
 simp only [Result.andThen]
 rw [Oper.upon_value]
 go_wp2
 go_ret
 exact ⟨rfl, rfl⟩
theorem index1_any (B : Nat) (A : Option Addr) (c : Nat) (l : List UInt8) (n : Nat) (hn : l.length = n) (q : Nat) (w : World) (hA : ByAt B w A c l) (h0 : w.cell? ⟨q, 0, none⟩ = some (.int .u8 32)) :
 Calls Tryz.prog 104 #[.slice A n c, .slice (some ⟨q, 0, none⟩) 1 1] w fun e w' => e = .returned (.int .i64 (Lib.indexByte l 32)) ∧ w = w' := by
 have I := Hi (idx32_any B A c l n hn w hA)
 clear hA hn
 go_enter Tryz.func104, Tryz.ntmps104
 go_wp2_with fail
 refine I.out.mono ?_
 rintro e w1 ⟨rfl, rfl⟩
 go_wp2_with fail
 go_ret
 exact ⟨rfl, rfl⟩
theorem bcut_no (B : Nat) (A : Option Addr) (c : Nat) (l : List UInt8) (n : Nat) (hn : l.length = n) (q : Nat) (w : World) (hA : ByAt B w A c l) (h0 : w.cell? ⟨q, 0, none⟩ = some (.int .u8 32)) (hx : Lib.indexByte l 32 = -1) :
 Calls Tryz.prog 65 #[.slice A n c, .slice (some ⟨q, 0, none⟩) 1 1] w fun e w' => e = .returned (.tuple #[.slice A n c, .slice none 0 0, .bool false]) ∧ Below w.heap.size w w' := by
 have I := index1_any B A c l n hn q w hA h0
 rw [hx] at I
 have I := Hi I
 clear hA hn hx h0
 go_enter Tryz.func65, Tryz.ntmps65
 go_wp2_with fail
 refine I.out.mono ?_
 rintro e w1 ⟨rfl, rfl⟩
 go_wp2_with fail
 refine bodyPost_ret (v := .tuple #[.slice A n c, .slice none 0 0, .bool false]) (by simp [results, Tryz.results65, go_sem]) rfl ⟨rfl, Below.refl _ _⟩
theorem bcut_at (B : Nat) (A : Option Addr) (c : Nat) (l : List UInt8) (n : Nat) (hn : l.length = n) (hl : n ≤ 1000000) (q : Nat) (w : World) (hA : ByAt B w A c l) (h0 : w.cell? ⟨q, 0, none⟩ = some (.int .u8 32)) (o : Nat) (hx : Lib.indexByte l 32 = o) :
 Calls Tryz.prog 65 #[.slice A n c, .slice (some ⟨q, 0, none⟩) 1 1] w fun e w' => (∃ v, e = .returned (.tuple #[.slice A o c, v, .bool true])) ∧ Below w.heap.size w w' := by
 have I := index1_any B A c l n hn q w hA h0
 have hon : o < n := by
  have := (List.getElem?_eq_some_iff.1 (Lib.indexByte_some hx).1).1
  omega
 have hle := hA.le
 rw [hx] at I
 have I := Hi I
 have hse := fun x lo hi mx W => YY x lo hi mx W
 have hsl1 := fun W => slice_h A n c o (by omega) W
 have hsl2 : ∀ W : World, (Instr.slice 24 (.slice A n c) (some (.int .i64 ((o : Int) + 1))) none none).run Tryz.prog W = .ok (.slice (offA A c (o + 1)) (n - (o + 1)) (c - (o + 1))) W := fun W => by
  have := slice_l A n c (o + 1) (by omega) W
  rwa [Int.natCast_add] at this
 clear hA hn hx h0 hle
 go_enter Tryz.func65, Tryz.ntmps65
 go_wp2_with fail
 refine I.out.mono ?_
 rintro e w1 ⟨rfl, rfl⟩
 go_wp2_with fail
 go_quiet (fail)
 go_wp2_with fail
 refine bodyPost_ret (v := .tuple #[.slice A o c, .slice (offA A c (o + 1)) (n - (o + 1)) (c - (o + 1)), .bool true]) (by simp [results, Tryz.results65, go_sem]) rfl ⟨⟨_, rfl⟩, ZF _ _⟩
theorem enters_Tag (args : Array Value) (w : World) : (callFunc 67 args).run Tryz.prog w = .ok (.enter 67 args) w := by kernel_rfl
theorem conv32 (w : World) (n c : Nat) : (convert 24 24 (.slice (some ⟨w.heap.size, 0, none⟩) n c)).run Tryz.prog (w.alloc (.cells #[.int .u8 32] 5)) = .ok (.slice (some ⟨w.heap.size, 0, none⟩) n c) (w.alloc (.cells #[.int .u8 32] 5 (1, 2))) :=
 Lib.run_convert_bytes_const (P := Tryz.prog) w 24 5 #[.int .u8 32] n c Tryz.underlying24 Tryz.underlying5
theorem tagTok_any (B : Nat) (A : Option Addr) (c : Nat) (l : List UInt8) (n : Nat) (hn : l.length = n) (hl : n ≤ 1000000) (w : World) (hA : ByAt B w A c l) :
 Calls Tryz.prog 32 #[.slice A n c] w fun e w' => e = .returned (tagV l) ∧ Below w.heap.size w w' := by
 have kc := fun W n c => conv32 W n c
 have B0 := YB w (.cells #[.int .u8 32] 5 (1, 2))
 have hA0 := hA.grow B0
 have hq : (w.alloc (.cells #[.int .u8 32] 5 (1, 2))).cell? ⟨w.heap.size, 0, none⟩ = some (.int .u8 32) := Joins.cell_alloc_mark_at w _ _ _ _ 0 rfl
 by_cases hx : Lib.indexByte l 32 = -1
 · have C := Hi (bcut_no B A c l n hn w.heap.size _ hA0 hq hx)
   have HV := Hi (show tagV l = .tuple #[.string ⟨#[]⟩, .int .i64 0, .bool false] by unfold tagV; rw [tagO_no hx])
   clear hA hA0 hn hx hq
   go_enter Tryz.func32, Tryz.ntmps32
   go_wp2_with fail
   refine C.out.mono ?_
   rintro e w1 ⟨rfl, hb⟩
   have HB := Hi (YA B0 hb)
   clear hb C
   go_wp2_with fail
   refine bodyPost_ret (v := .tuple #[.string ⟨#[]⟩, .int .i64 0, .bool false]) (by simp [results, Tryz.results32, go_sem]) rfl ⟨by rw [HV.out], HB.out⟩
 · obtain ⟨o, ho⟩ : ∃ o : Nat, Lib.indexByte l 32 = o := by
    have := Lib.indexByte_ge l 32
    exact ⟨(Lib.indexByte l 32).toNat, by omega⟩
   have hol : o < l.length := (List.getElem?_eq_some_iff.1 (Lib.indexByte_some ho).1).1
   have C := Hi (bcut_at B A c l n hn hl w.heap.size _ hA0 hq o ho)
   have hto : (l.take o).length = o := by rw [List.length_take]; omega
   have HT := Hi (hA0.here.take (hi := o) (by omega))
   have hv := tagO_at ho
   obtain ⟨t, ht⟩ : ∃ t, l.take o = t := ⟨_, rfl⟩
   rw [ht] at HT hv hto
   have AL := Hi (fun W => all_any 67 tagN (fun n w h => tag_any n w h) enters_Tag ⟨t.toArray⟩ (by show t.toArray.size ≤ _; simp; omega) W)
   have HTo := Hi hto
   have hon : o ≤ 1000000 := by omega
   cases ha : allL tagN t with
   | true =>
     have HV := Hi (show tagV l = .tuple #[.string ⟨t.toArray⟩, .int .i64 ((o : Int) + 1), .bool true] by unfold tagV; rw [hv, if_pos ha]; show Value.tuple #[_, .int .i64 ((t.length : Int) + 1), _] = _; rw [hto])
     have AL : Hid (∀ W, Calls Tryz.prog 66 #[.string ⟨t.toArray⟩, .func (Fn.func 67) #[] #[]] W fun e w' => e = .returned (.bool true) ∧ Below W.heap.size W w') := Hi (fun W => by
      have := AL.out W
      simp only [ha] at this
      exact this)
     clear hA hA0 hn hx hq ho hv ht ha hol hto
     go_enter Tryz.func32, Tryz.ntmps32
     go_wp2_with fail
     refine C.out.mono ?_
     rintro e w1 ⟨⟨v, rfl⟩, hb⟩
     have HB := Hi (YA B0 hb)
     have HT1 := Hi (HT.out.below hb)
     have cv1 := convS _ w1 A c o t HT1.out HTo.out
     clear hb C
     go_wp2_with fail
     refine (AL.out _).mono ?_
     rintro e w2 ⟨rfl, hb2⟩
     have HB2 := Hi (YA HB.out hb2)
     have cv2 := convS _ w2 A c o t (HT1.out.grow hb2) HTo.out
     clear hb2 cv1
     go_wp2_with fail
     refine bodyPost_ret (v := .tuple #[.string ⟨t.toArray⟩, .int .i64 ((o : Int) + 1), .bool true]) (by simp [results, Tryz.results32, go_sem]) rfl ⟨by rw [HV.out], HB2.out⟩
   | false =>
     have HV := Hi (show tagV l = .tuple #[.string ⟨#[]⟩, .int .i64 0, .bool false] by unfold tagV; rw [hv, ha]; rfl)
     have AL : Hid (∀ W, Calls Tryz.prog 66 #[.string ⟨t.toArray⟩, .func (Fn.func 67) #[] #[]] W fun e w' => e = .returned (.bool false) ∧ Below W.heap.size W w') := Hi (fun W => by
      have := AL.out W
      simp only [ha] at this
      exact this)
     clear hA hA0 hn hx hq ho hv ht ha hol hto
     go_enter Tryz.func32, Tryz.ntmps32
     go_wp2_with fail
     refine C.out.mono ?_
     rintro e w1 ⟨⟨v, rfl⟩, hb⟩
     have HB := Hi (YA B0 hb)
     have HT1 := Hi (HT.out.below hb)
     have cv1 := convS _ w1 A c o t HT1.out HTo.out
     clear hb C
     go_wp2_with fail
     refine (AL.out _).mono ?_
     rintro e w2 ⟨rfl, hb2⟩
     have HB2 := Hi (YA HB.out hb2)
     clear hb2 cv1
     go_wp2_with fail
     refine bodyPost_ret (v := .tuple #[.string ⟨#[]⟩, .int .i64 0, .bool false]) (by simp [results, Tryz.results32, go_sem]) rfl ⟨by rw [HV.out], HB2.out⟩
theorem dig_all_snoc_t (r : List UInt8) (j : Nat) (h : j < r.length) (ha : (r.take j).all (fun c => tagN c.toNat) = true) (hd : tagN r[j].toNat = true) : (r.take (j + 1)).all (fun c => tagN c.toNat) = true := by
 rw [List.take_succ_eq_append_getElem h, List.all_append, ha]
 simp [hd]
theorem refTagTok_any (B : Nat) (A : Option Addr) (c : Nat) (l : List UInt8) (n : Nat) (hn : l.length = n) (hl : n ≤ 1000000) (w : World) (hA : ByAt B w A c l) :
 Calls Tryz.prog 62 #[.slice A n c] w fun e w' => e = .returned (tagV l) ∧ w = w' := by
 have RT := Hi (fun n W h => refTag_any n W h)
 have HA := Hi hA
 have hle := hA.le
 have hse := fun x lo hi mx W => YY x lo hi mx W
 have HN := Hi hn
 obtain ⟨V, hV⟩ : ∃ V, tagV l = V := ⟨_, rfl⟩
 rw [hV]
 have HV := Hi hV
 rw [hn] at hle
 clear hA hn hV
 go_enter Tryz.func62, Tryz.ntmps62
 go_wp2_with fail
 go_loop [5] (fun i => ∃ k : Nat, k ≤ n ∧ i = .int .i64 (k : Int) ∧ Hid ((l.take k).all (fun c => tagN c.toNat) = true)) (fun i => n - (intOf i).toNat)
 case atStart => exact ⟨0, Nat.zero_le _, rfl, rfl⟩
 case round =>
  obtain ⟨k, hk, rfl, hD⟩ := hrel
  have fin : (∀ h : k < l.length, tagN l[k].toNat = false) → Hid (tagL l = l.take k) := fun hend => takeWhile_at l k (by rw [HN.out]; exact hk) hD.out hend
  have fin := Hi fin
  by_cases hlt : k < n
  · have hlf : k < l.length := by rw [HN.out]; exact hlt
    obtain ⟨b, off, hAe, _, _, hc⟩ := HA.out.cell hlf
    have hnb : l[k].toNat ≤ 255 := by have := l[k].toNat_lt; omega
    have d1 : decide ((k : Int) < (n : Int)) = true := by simp; omega
    have d1' : decide ((k : Int) == (n : Int)) = false := by simp; omega
    cases ht : tagN l[k].toNat with
    | true =>
      have HX := Hi (dig_all_snoc_t l k hlf hD.out ht)
      have R := RT.out l[k].toNat w hnb
      rw [ht] at R
      have R := Hi R
      subst hAe
      clear ht fin
      generalize l[k].toNat = x at *
      go_wp2_with fail
      refine R.out.mono ?_
      rintro e w1 ⟨rfl, rfl⟩
      go_wp2_with fail
      go_round
      case rel => exact ⟨k + 1, by omega, by go_num, HX⟩
      case measure => simp [intOf]; omega
    | false =>
      have R := RT.out l[k].toNat w hnb
      rw [ht] at R
      have R := Hi R
      have hF := fin.out (fun _ => ht)
      have hk32 := Hi (show l[k]? = some l[k] from List.getElem?_eq_getElem hlf)
      by_cases h0 : k = 0
      · subst h0
        have HVe := Hi (show V = .tuple #[.string ⟨#[]⟩, .int .i64 0, .bool false] by
         rw [← HV.out]; unfold tagV tagO; rw [if_neg (fun hc => hc.1 (by rw [hF.out]; rfl))])
        subst hAe
        clear ht fin hF hk32
        generalize l[0].toNat = x at *
        rw [Nat.add_zero] at hc
        go_wp2_with fail
        refine R.out.mono ?_
        rintro e w1 ⟨rfl, rfl⟩
        go_wp2_with fail
        refine bodyPost_ret (v := .tuple #[.string ⟨#[]⟩, .int .i64 0, .bool false]) (by simp [results, Tryz.results62, go_sem]) rfl ⟨by rw [HVe.out], rfl⟩
      · have hF2 := hF.out
        have hkl : (tagL l).length = k := by rw [hF2, List.length_take]; omega
        have hne : tagL l ≠ [] := fun e => h0 (by rw [← hkl, e]; rfl)
        have d2 : ((k : Int) == 0) = false := by simp; omega
        have d3 : ((k : Int) == (n : Int)) = false := by simp; omega
        by_cases hsp : l[k].toNat = 32
        · have hl32 : l[k] = 32 := UInt8.toNat_inj.1 hsp
          have HVe := Hi (show V = .tuple #[.string ⟨(tagL l).toArray⟩, .int .i64 ((k : Int) + 1), .bool true] by
           rw [← HV.out]; unfold tagV tagO
           rw [if_pos ⟨hne, by rw [hkl, hk32.out, hl32]⟩]
           show Value.tuple #[_, .int .i64 (((tagL l).length : Int) + 1), _] = _
           rw [hkl])
          have hcv := convS _ w A c k (tagL l) (by rw [hF2]; exact HA.out.take (hi := k) (by omega)) hkl
          have hsl := fun W => slice_h A n c k (by omega) W
          rw [hsp] at R hc
          generalize tagL l = T at *
          subst hAe
          clear ht fin hF hk32 hl32 hF2 hkl hsp hne
          go_wp2_with fail
          refine R.out.mono ?_
          rintro e w1 ⟨rfl, rfl⟩
          go_wp2_with fail
          refine bodyPost_ret (v := .tuple #[.string ⟨T.toArray⟩, .int .i64 ((k : Int) + 1), .bool true]) (by simp [results, Tryz.results62, go_sem]) rfl ⟨by rw [HVe.out], rfl⟩
        · have HVe := Hi (show V = .tuple #[.string ⟨#[]⟩, .int .i64 0, .bool false] by
           rw [← HV.out]; unfold tagV tagO
           rw [if_neg (fun hc2 => hsp (by
            have := hc2.2
            rw [hkl, hk32.out] at this
            rw [Option.some.inj this]; rfl))])
          subst hAe
          clear ht fin hF hk32 hF2 hkl hne
          generalize l[k].toNat = x at *
          have d4 : ((x : Int) != 32) = true := by simp; omega
          go_wp2_with fail
          refine R.out.mono ?_
          rintro e w1 ⟨rfl, rfl⟩
          go_wp2_with fail
          refine bodyPost_ret (v := .tuple #[.string ⟨#[]⟩, .int .i64 0, .bool false]) (by simp [results, Tryz.results62, go_sem]) rfl ⟨by rw [HVe.out], rfl⟩
  · obtain rfl : k = n := by omega
    have hF := fin.out (fun h => absurd h (by have := HN.out; omega))
    have HVe := Hi (show V = .tuple #[.string ⟨#[]⟩, .int .i64 0, .bool false] by
     rw [← HV.out]; unfold tagV tagO
     rw [if_neg (fun hc2 => by
      have := hc2.2
      rw [hF.out, List.getElem?_eq_none (by rw [List.length_take]; have := HN.out; omega)] at this
      cases this)])
    have d1 : decide ((k : Int) < (k : Int)) = false := by simp
    clear fin hF
    by_cases h0 : k = 0
    · subst h0
      go_wp2_with fail
      refine bodyPost_ret (v := .tuple #[.string ⟨#[]⟩, .int .i64 0, .bool false]) (by simp [results, Tryz.results62, go_sem]) rfl ⟨by rw [HVe.out], rfl⟩
    · have d2 : ((k : Int) == 0) = false := by simp; omega
      go_wp2_with fail
      refine bodyPost_ret (v := .tuple #[.string ⟨#[]⟩, .int .i64 0, .bool false]) (by simp [results, Tryz.results62, go_sem]) rfl ⟨by rw [HVe.out], rfl⟩
def ownC (a : CI) : CI :=
 if a.kind = 5 then { tag := a.tag, kind := a.kind, mbox := a.mbox, set := [], items := 0, mode := 0, silent := false, flags := 0, data := [] }
 else if a.kind = 6 then { tag := a.tag, kind := a.kind, mbox := a.mbox, set := [], items := 0, mode := 0, silent := false, flags := a.flags, data := a.data }
 else if a.kind = 7 then { tag := a.tag, kind := a.kind, mbox := [], set := a.set, items := a.items, mode := 0, silent := false, flags := 0, data := [] }
 else if a.kind = 8 then { tag := a.tag, kind := a.kind, mbox := [], set := a.set, items := 0, mode := a.mode, silent := a.silent, flags := a.flags, data := [] }
 else { tag := a.tag, kind := a.kind, mbox := [], set := [], items := 0, mode := 0, silent := false, flags := 0, data := [] }
def okC (a : CI) : Bool :=
 if a.kind = 7 then decide (0 < a.set.length) && (decide (1 ≤ a.items) && decide (a.items ≤ 31))
 else if a.kind = 8 then decide (0 < a.set.length) && (decide (0 ≤ a.mode) && decide (a.mode ≤ 2))
 else decide (1 ≤ a.kind) && decide (a.kind ≤ 6)
def shortC (a : CI) : Bool := decide (a.mbox.length ≤ 65536) && decide (a.data.length ≤ 65536)
def validC (a : CI) : Bool := okC a && (shortC a && (decide (a.flags ≤ 31) && (allL tagN a.tag && sameC a (ownC a))))
def VRel (w : World) (a : CI) (A1 A2 : Option Addr) (k1 k2 : Nat) (s4 : Value) (wx : World) : Prop :=
 ∃ (o : CI) (A3 A4 : Option Addr) (k3 k4 : Nat), Hid (o = ownC a) ∧ s4 = .bool (okC a) ∧ Hid (SlAt encR 2 w A3 o.set) ∧ Hid (ByAt w.heap.size w A4 k4 o.data) ∧ Hid (Box2 w wx a o A1 A2 k1 k2 A3 A4 k3 k4)
theorem ownC_bd {a : CI} : (ownC a).set.length ≤ a.set.length ∧ (ownC a).data.length ≤ a.data.length := by
 unfold ownC
 split
 · simp
 split
 · simp
 split
 · simp
 split <;> simp
theorem VRel.drew {w wx : World} {a : CI} {A1 A2 : Option Addr} {k1 k2 : Nat} {s4 : Value} (h : VRel w a A1 A2 k1 k2 s4 wx) : VRel w a A1 A2 k1 k2 s4 wx.drew := by
 obtain ⟨o, A3, A4, k3, k4, h1, h2, h3, h4, h5⟩ := h
 exact ⟨o, A3, A4, k3, k4, h1, h2, h3, h4, Hi (h5.out.below (drewN_below7 wx 1))⟩
theorem vrel_mk (w : World) (tag mbox data : List UInt8) (set : List R) (kind items mode flags : Int) (silent : Bool) (A1 A2 : Option Addr) (k1 k2 n : Nat) (hn : set.length = n) (o : CI) (A3 A4 : Option Addr) (k3 k4 : Nat) (q : Bool) (h1 : o = ownC ⟨tag, kind, mbox, set, items, mode, silent, flags, data⟩) (h2 : q = okC ⟨tag, kind, mbox, set, items, mode, silent, flags, data⟩) (h3 : SlAt encR 2 w A3 o.set) (h4 : ByAt w.heap.size w A4 k4 o.data) (m : Nat) (hm : o.set.length = m) :
 VRel w ⟨tag, kind, mbox, set, items, mode, silent, flags, data⟩ A1 A2 k1 k2 (.bool q) ((w.alloc (.cells #[.string ⟨tag.toArray⟩, .int .i64 kind, .string ⟨mbox.toArray⟩, .slice A1 n k1, .int .i64 items, .int .i64 mode, .bool silent, .int .u8 flags, .slice A2 data.length k2] 26)).alloc (.cells #[.string ⟨o.tag.toArray⟩, .int .i64 o.kind, .string ⟨o.mbox.toArray⟩, .slice A3 m k3, .int .i64 o.items, .int .i64 o.mode, .bool o.silent, .int .u8 o.flags, .slice A4 o.data.length k4] 26)) := by
 subst hn hm
 exact ⟨o, A3, A4, k3, k4, Hi h1, by rw [h2], Hi h3, Hi h4, Hi (Box2.start w ⟨tag, kind, mbox, set, items, mode, silent, flags, data⟩ o A1 A2 k1 k2 A3 A4 k3 k4)⟩
theorem okC_7 {tag mbox : List UInt8} {set : List R} {items mode flags : Int} {silent : Bool} {data : List UInt8} : okC ⟨tag, 7, mbox, set, items, mode, silent, flags, data⟩ = (decide (0 < set.length) && (decide (1 ≤ items) && decide (items ≤ 31))) := rfl
theorem okC_8 {tag mbox : List UInt8} {set : List R} {items mode flags : Int} {silent : Bool} {data : List UInt8} : okC ⟨tag, 8, mbox, set, items, mode, silent, flags, data⟩ = (decide (0 < set.length) && (decide (0 ≤ mode) && decide (mode ≤ 2))) := rfl
theorem flags31 {f : Int} (h0 : 0 ≤ f) (h1 : f ≤ 255) : (bits BinOp.andNot IntKind.u8 f 31 == 0) = decide (f ≤ 31) := by
 have h : ∀ x : _root_.Fin 256, (bits BinOp.andNot IntKind.u8 (x.val : Int) 31 == 0) = decide ((x.val : Int) ≤ 31) := by decide +kernel
 have := h ⟨f.toNat, by omega⟩
 rw [show ((⟨f.toNat, by omega⟩ : _root_.Fin 256).val : Int) = f from by simp; omega] at this
 exact this
theorem valid_any (a : CI) (A1 A2 : Option Addr) (k1 k2 : Nat) (hf : 0 ≤ a.flags ∧ a.flags ≤ 255) (l0 : a.tag.length ≤ 1000000) (l3 : a.mbox.length ≤ 1000000) (l1 : a.set.length ≤ 1000000) (l2 : a.data.length ≤ 1000000) (w : World) (s1 : SlAt encR 2 w A1 a.set) (s2 : ByAt w.heap.size w A2 k2 a.data) :
 Calls Tryz.prog 45 #[ciV a A1 A2 k1 k2] w fun e w' => e = .returned (.bool (validC a)) ∧ Below w.heap.size w w' := by
 obtain ⟨tag, kind, mbox, set, items, mode, silent, flags, data⟩ := a
 obtain ⟨n, hn⟩ : ∃ n, set.length = n := ⟨_, rfl⟩
 unfold ciV
 have S1 : Hid (SlAt encR 2 w A1 set) := Hi s1
 have S2 : Hid (ByAt w.heap.size w A2 k2 data) := Hi s2
 have SN := Hi (show SlAt encR 2 w none ([] : List R) from .inl rfl)
 have BN := Hi (ByAt.nil w.heap.size w none 0)
 have f0 : 0 ≤ flags := hf.1
 have f1 : flags ≤ 255 := hf.2
 have HF := Hi (flags31 f0 f1)
 have HL0 : Hid (tag.length ≤ 1000000) := Hi l0
 have HL1 : Hid (set.length ≤ 1000000) := Hi l1
 have HL2 : Hid (data.length ≤ 1000000) := Hi l2
 have HN := Hi hn
 show Calls _ _ #[.agg #[.string ⟨tag.toArray⟩, .int .i64 kind, .string ⟨mbox.toArray⟩, .slice A1 set.length k1, .int .i64 items, .int .i64 mode, .bool silent, .int .u8 flags, .slice A2 data.length k2]] w _
 rw [hn]
 clear s1 s2 hf l0 l1 l2 l3 hn
 go_enter Tryz.func45, Tryz.ntmps45
 go_upto_block 0 with (fail)
 go_cut [4] (fun s4 wx => VRel w ⟨tag, kind, mbox, set, items, mode, silent, flags, data⟩ A1 A2 k1 k2 s4 wx)
 case first =>
  have VK := Hi (vrel_mk w tag mbox data set kind items mode flags silent A1 A2 k1 k2 n HN.out)
  have VD := Hi (fun o A3 A4 k3 k4 q h1 h2 h3 h4 m hm => (vrel_mk w tag mbox data set kind items mode flags silent A1 A2 k1 k2 n HN.out o A3 A4 k3 k4 q h1 h2 h3 h4 m hm).drew)
  by_cases h1 : kind = 1
  · subst h1
    go_wp2_with fail
    go_meet
    exact VK.out ⟨tag, 1, [], [], 0, 0, false, 0, []⟩ none none 0 0 true (by simp [ownC]) (by simp [okC]) SN.out BN.out 0 rfl
  by_cases h2 : kind = 2
  · subst h2
    go_wp2_with fail
    go_meet
    exact VK.out ⟨tag, 2, [], [], 0, 0, false, 0, []⟩ none none 0 0 true (by simp [ownC]) (by simp [okC]) SN.out BN.out 0 rfl
  by_cases h3 : kind = 3
  · subst h3
    go_wp2_with fail
    go_meet
    exact VK.out ⟨tag, 3, [], [], 0, 0, false, 0, []⟩ none none 0 0 true (by simp [ownC]) (by simp [okC]) SN.out BN.out 0 rfl
  by_cases h4 : kind = 4
  · subst h4
    go_wp2_with fail
    go_meet
    exact VK.out ⟨tag, 4, [], [], 0, 0, false, 0, []⟩ none none 0 0 true (by simp [ownC]) (by simp [okC]) SN.out BN.out 0 rfl
  by_cases h5 : kind = 5
  · subst h5
    go_wp2_with fail
    go_meet
    exact VK.out ⟨tag, 5, mbox, [], 0, 0, false, 0, []⟩ none none 0 0 true (by simp [ownC]) (by simp [okC]) SN.out BN.out 0 rfl
  by_cases h6 : kind = 6
  · subst h6
    go_wp2_with fail
    go_region
    all_goals
     go_wp2_with fail
     go_meet
     exact VD.out ⟨tag, 6, mbox, [], 0, 0, false, flags, data⟩ none A2 0 k2 true (by simp [ownC]) (by simp [okC]) SN.out S2.out 0 rfl
  by_cases h7 : kind = 7
  · subst h7
    by_cases hs : 0 < n
    rotate_left
    · have d0 : decide (0 < n) = false := by simp; omega
      have HS := Hi hs
      clear hs
      go_wp2_with fail
      go_region
      all_goals
       go_wp2_with fail
       go_meet
       exact VD.out ⟨tag, 7, [], set, items, 0, false, 0, []⟩ A1 none k1 0 false (by simp [ownC]) (by rw [okC_7, HN.out]; simp; intro h; have := HS.out; omega) S1.out BN.out n HN.out
    · have d0 : decide (0 < n) = true := by simpa using hs
      by_cases hx : 1 ≤ items
      rotate_left
      · have d1 : decide (1 ≤ items) = false := by simpa using hx
        have HX := Hi hx
        clear hx
        go_wp2_with fail
        go_region
        all_goals
         go_wp2_with fail
         go_meet
         exact VD.out ⟨tag, 7, [], set, items, 0, false, 0, []⟩ A1 none k1 0 false (by simp [ownC]) (by rw [okC_7, HN.out]; simp; intro _ h; have := HX.out; omega) S1.out BN.out n HN.out
      · have d1 : decide (1 ≤ items) = true := by simpa using hx
        by_cases hy : items ≤ 31
        rotate_left
        · have d2 : decide (items ≤ 31) = false := by simpa using hy
          have HY := Hi hy
          clear hy
          go_wp2_with fail
          go_region
          all_goals
           go_wp2_with fail
           go_meet
           exact VD.out ⟨tag, 7, [], set, items, 0, false, 0, []⟩ A1 none k1 0 false (by simp [ownC]) (by rw [okC_7, HN.out]; simp; intro _ _; have := HY.out; omega) S1.out BN.out n HN.out
        · have d2 : decide (items ≤ 31) = true := by simpa using hy
          go_wp2_with fail
          go_region
          all_goals
           go_wp2_with fail
           go_meet
           exact VD.out ⟨tag, 7, [], set, items, 0, false, 0, []⟩ A1 none k1 0 true (by simp [ownC]) (by rw [okC_7, HN.out]; simp; exact ⟨hs, hx, hy⟩) S1.out BN.out n HN.out
  by_cases h8 : kind = 8
  · subst h8
    by_cases hs : 0 < n
    rotate_left
    · have d0 : decide (0 < n) = false := by simp; omega
      have HS := Hi hs
      clear hs
      go_wp2_with fail
      go_region
      all_goals
       go_wp2_with fail
       go_meet
       exact VD.out ⟨tag, 8, [], set, 0, mode, silent, flags, []⟩ A1 none k1 0 false (by simp [ownC]) (by rw [okC_8, HN.out]; simp; intro h; have := HS.out; omega) S1.out BN.out n HN.out
    · have d0 : decide (0 < n) = true := by simpa using hs
      by_cases hx : 0 ≤ mode
      rotate_left
      · have d1 : decide (0 ≤ mode) = false := by simpa using hx
        have HX := Hi hx
        clear hx
        go_wp2_with fail
        go_region
        all_goals
         go_wp2_with fail
         go_meet
         exact VD.out ⟨tag, 8, [], set, 0, mode, silent, flags, []⟩ A1 none k1 0 false (by simp [ownC]) (by rw [okC_8, HN.out]; simp; intro _ h; have := HX.out; omega) S1.out BN.out n HN.out
      · have d1 : decide (0 ≤ mode) = true := by simpa using hx
        by_cases hy : mode ≤ 2
        rotate_left
        · have d2 : decide (mode ≤ 2) = false := by simpa using hy
          have HY := Hi hy
          clear hy
          go_wp2_with fail
          go_region
          all_goals
           go_wp2_with fail
           go_meet
           exact VD.out ⟨tag, 8, [], set, 0, mode, silent, flags, []⟩ A1 none k1 0 false (by simp [ownC]) (by rw [okC_8, HN.out]; simp; intro _ _; have := HY.out; omega) S1.out BN.out n HN.out
        · have d2 : decide (mode ≤ 2) = true := by simpa using hy
          go_wp2_with fail
          go_region
          all_goals
           go_wp2_with fail
           go_meet
           exact VD.out ⟨tag, 8, [], set, 0, mode, silent, flags, []⟩ A1 none k1 0 true (by simp [ownC]) (by rw [okC_8, HN.out]; simp; exact ⟨hs, hx, hy⟩) S1.out BN.out n HN.out
  have e1 : (kind == 1) = false := by simpa using h1
  have e2 : (kind == 2) = false := by simpa using h2
  have e3 : (kind == 3) = false := by simpa using h3
  have e4 : (kind == 4) = false := by simpa using h4
  have e5 : (kind == 5) = false := by simpa using h5
  have e6 : (kind == 6) = false := by simpa using h6
  have e7 : (kind == 7) = false := by simpa using h7
  have e8 : (kind == 8) = false := by simpa using h8
  have HK : Hid (¬ (1 ≤ kind ∧ kind ≤ 8)) := Hi (by omega)
  go_wp2_with fail
  go_meet
  exact VK.out ⟨tag, kind, [], [], 0, 0, false, 0, []⟩ none none 0 0 false (by simp [ownC, h5, h6, h7, h8]) (by simp [okC, h7, h8]; have := HK.out; omega) SN.out BN.out 0 rfl
 case rest =>
  obtain ⟨o, A3, A4, k3, k4, ho, rfl, hs3, hs4, hbx⟩ := hcut
  clear SN BN
  have OB := ownC_bd (a := ⟨tag, kind, mbox, set, items, mode, silent, flags, data⟩)
  rw [← ho.out] at OB
  have OB := Hi OB
  have HX : Hid (wc.heap[w.heap.size]? = some (.cells #[.string ⟨tag.toArray⟩, .int .i64 kind, .string ⟨mbox.toArray⟩, .slice A1 set.length k1, .int .i64 items, .int .i64 mode, .bool silent, .int .u8 flags, .slice A2 data.length k2] 26 (0, 0))) := Hi hbx.out.1
  have HY := Hi hbx.out.2.1
  have HB : Hid (Below w.heap.size w wc) := Hi hbx.out.2.2.1
  have HZ : Hid (w.heap.size + 2 ≤ wc.heap.size) := Hi hbx.out.2.2.2
  have AT : Hid (∀ W, Calls Tryz.prog 66 #[.string ⟨tag.toArray⟩, .func (Fn.func 67) #[] #[]] W fun e w' => e = .returned (.bool (allL tagN tag)) ∧ Below W.heap.size W w') := Hi (fun W => all_any _ _ (fun n w h => tag_any n w h) enters_Tag ⟨tag.toArray⟩ (by have := HL0.out; show tag.toArray.size ≤ _; simp; omega) W)
  have PS : Hid (∀ W, Below w.heap.size w W → Calls Tryz.prog 79 #[.agg #[.string ⟨tag.toArray⟩, .int .i64 kind, .string ⟨mbox.toArray⟩, .slice A1 set.length k1, .int .i64 items, .int .i64 mode, .bool silent, .int .u8 flags, .slice A2 data.length k2], .agg #[.string ⟨o.tag.toArray⟩, .int .i64 o.kind, .string ⟨o.mbox.toArray⟩, .slice A3 o.set.length k3, .int .i64 o.items, .int .i64 o.mode, .bool o.silent, .int .u8 o.flags, .slice A4 o.data.length k4]] W fun e w' => e = .returned (.bool (sameC ⟨tag, kind, mbox, set, items, mode, silent, flags, data⟩ o)) ∧ Below W.heap.size W w') :=
   Hi (fun W hW => psame_any ⟨tag, kind, mbox, set, items, mode, silent, flags, data⟩ o A1 A2 A3 A4 _ k1 _ k2 _ k3 _ k4 rfl rfl rfl rfl HL1.out HL2.out (Nat.le_trans OB.out.1 HL1.out) (Nat.le_trans OB.out.2 HL2.out) W (S1.out.below hW) ((S2.out.below hW).mono hW.size) (hs3.out.below hW) ((hs4.out.below hW).mono hW.size))
  have HR := Hi (show validC ⟨tag, kind, mbox, set, items, mode, silent, flags, data⟩ = (okC ⟨tag, kind, mbox, set, items, mode, silent, flags, data⟩ && ((decide (mbox.length ≤ 65536) && decide (data.length ≤ 65536)) && (decide (flags ≤ 31) && (allL tagN tag && sameC ⟨tag, kind, mbox, set, items, mode, silent, flags, data⟩ o)))) by rw [ho.out]; rfl)
  have g1 : decide ((mbox.length : Int) ≤ 65536) = decide (mbox.length ≤ 65536) := by rw [decide_eq_decide]; omega
  have g2 : decide ((data.length : Int) ≤ 65536) = decide (data.length ≤ 65536) := by rw [decide_eq_decide]; omega
  have g3 := HF.out
  have sz0 : (ByteArray.mk mbox.toArray).size = mbox.length := by show mbox.toArray.size = _; simp
  clear HF S1 S2 hs3 hs4 ho hbx OB HN HL0 HL1 HL2
  generalize okC ⟨tag, kind, mbox, set, items, mode, silent, flags, data⟩ = q at *
  generalize sameC ⟨tag, kind, mbox, set, items, mode, silent, flags, data⟩ o = d5 at *
  generalize allL tagN tag = d4 at *
  generalize decide (mbox.length ≤ 65536) = d1 at *
  generalize decide (data.length ≤ 65536) = d2 at *
  generalize decide (flags ≤ 31) = d3 at *
  obtain ⟨x0, x1, x2, x3, x4, x5, x6, x7, x8⟩ := ZS HX.out
  cases d1
  · cases q
    all_goals
     go_wp2_with fail
     go_ret
     exact ⟨YU (by rw [HR.out]; simp), HB.out⟩
  cases d2
  · cases q
    all_goals
     go_wp2_with fail
     go_ret
     exact ⟨YU (by rw [HR.out]; simp), HB.out⟩
  cases q
  · go_wp2_with fail
    go_ret
    exact ⟨YU (by rw [HR.out]; simp), HB.out⟩
  cases d3
  · go_wp2_with fail
    go_ret
    exact ⟨YU (by rw [HR.out]; simp), HB.out⟩
  go_wp2_with fail
  refine (AT.out _).mono ?_
  rintro e w5 ⟨rfl, hb5⟩
  have HB5 := Hi (YA HB.out hb5)
  cases d4
  · clear x0 x1 x2 x3 x4 x5 x6 x7 x8 hb5
    go_wp2_with fail
    go_ret
    exact ⟨YU (by rw [HR.out]; simp), HB5.out⟩
  clear x0 x1 x2 x3 x4 x5 x6 x7 x8
  obtain ⟨x0, x1, x2, x3, x4, x5, x6, x7, x8⟩ := ZS ((hb5.block _ (by have := HZ.out; omega)).trans HX.out)
  obtain ⟨y0, y1, y2, y3, y4, y5, y6, y7, y8⟩ := ZS ((hb5.block _ (by have := HZ.out; omega)).trans HY.out)
  clear hb5
  go_wp2_with fail
  refine (PS.out _ HB5.out).mono ?_
  rintro e w6 ⟨rfl, hb6⟩
  go_wp2_with fail
  go_ret
  exact ⟨YU (by rw [HR.out]; simp), YA HB5.out hb6⟩
theorem validC_bd {a : CI} (h : validC a = true) : a.mbox.length ≤ 65536 ∧ a.data.length ≤ 65536 ∧ a.flags ≤ 31 := by
 unfold validC shortC at h
 simp only [Bool.and_eq_true, decide_eq_true_eq] at h
 exact ⟨h.2.1.1, h.2.1.2, h.2.2.1⟩
end Go.Proofs.YtpgfnlhfciacoaaGreatDoor
