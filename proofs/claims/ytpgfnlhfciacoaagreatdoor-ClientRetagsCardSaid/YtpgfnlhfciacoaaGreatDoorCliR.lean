/- client: the writers' functions. -/
import Derived.Test.YtpgfnlhfciacoaaGreatDoorCliA
import Derived.Test.YtpgfnlhfciacoaaGreatDoorCliW
import Derived.Test.YtpgfnlhfciacoaaGreatDoorJoinS
import Derived.Test.YtpgfnlhfciacoaaGreatDoorGq
namespace Go.Proofs.YtpgfnlhfciacoaaGreatDoor
open Go.RowKit Go.Maps

/-- Within a writer: the text under way, and the command in its box bx. -/
structure RS (B bb bx g : Nat) (cs : Array Value) (l : List UInt8) (w : World) : Prop where
  put : PutB B bb g l w
  nb : bx ≠ bb
  ng : bx ≠ g
  row : w.heap[bx]? = some (.cells cs 26 (0, 0))
  env : EnvB B w
theorem RS.below {B bb bx g : Nat} {cs : Array Value} {l : List UInt8} {w w' : World} (h : RS B bb bx g cs l w) (hb : Below w.heap.size w w') : RS B bb bx g cs l w' :=
  ⟨h.put.below hb, h.nb, h.ng, (hb.block bx (Array.getElem?_eq_some_iff.1 h.row).1).trans h.row, h.env.below (hb.mono h.put.hw)⟩
theorem RS.start {B bb g : Nat} {l : List UInt8} {w : World} (h : PutB B bb g l w) (he : EnvB B w) (cs : Array Value) : RS B bb w.heap.size g cs l (w.alloc (.cells cs 26)) := by
  have hb := below_al w (.cells cs 26)
  have h1 := h.blt
  have h2 := h.glt
  exact ⟨h.below hb, by omega, by omega, heap_alloc_new w _, he.below (hb.mono h.hw)⟩
theorem rs_put {B bb bx g : Nat} {cs : Array Value} {l : List UInt8} (p : List UInt8) (hl : l.length ≤ 10000000) (hp : p.length ≤ 10000000) {w : World} (h : RS B bb bx g cs l w) :
    Calls Tryz.prog 80 #[.string ⟨p.toArray⟩, .pointer (some ⟨bb, 0, none⟩)] w fun e w' => e = .returned (.tuple #[]) ∧ (∃ g', RS B bb bx g' cs (l ++ 32 :: p) w') ∧ Below B w w' :=
  (cput_any B bb g l p hl hp w h.put).mono fun e w' ⟨he, ⟨g', hP, hor, hO⟩, hb⟩ => by
    have hx := (Array.getElem?_eq_some_iff.1 h.row).1
    refine ⟨he, ⟨g', hP, h.nb, ?_, (hO bx hx h.nb h.ng).trans h.row, h.env.below hb⟩, hb⟩
    have h2 := h.ng
    rcases hor with rfl | hor
    · exact h2
    · omega
/-- What a writer answers. -/
def WrPost (B bb : Nat) (l : List UInt8) (w : World) (e : Ending) (w' : World) : Prop := e = .returned (.tuple #[]) ∧ (∃ g', PutB B bb g' l w') ∧ Below B w w'

section
variable (B bb g : Nat) (l : List UInt8) (A1 A2 : Option Addr) (k1 k2 : Nat) (w : World)
set_option maxRecDepth 100000 in
set_option maxHeartbeats 1000000 in
theorem wbare_any (cv : Array Value) (hp : PutB B bb g l w) :
    Calls Tryz.prog 122 #[.agg cv, .func (.func 80) #[] #[.pointer (some ⟨bb, 0, none⟩)]] w (WrPost B bb l w) := by
  have HB := Lib.hid (fun o => below_al w o)
  have HP := Lib.hid hp
  clear hp
  go_enter Tryz.func122, Tryz.ntmps122
  go_wp2_with fail
  go_end0
  exact ⟨rfl, ⟨g, HP.out.below (HB.out _)⟩, (HB.out _).mono HP.out.hw⟩

set_option maxRecDepth 100000 in
set_option maxHeartbeats 1000000 in
theorem wselect_any (a : CI) (hl : l.length ≤ 1000000) (l3 : a.mbox.length ≤ 100000) (hp : PutB B bb g l w) (he : EnvB B w) :
    Calls Tryz.prog 123 #[ciV a A1 A2 k1 k2, .func (.func 80) #[] #[.pointer (some ⟨bb, 0, none⟩)]] w (WrPost B bb (l ++ 32 :: mboxT a.mbox) w) := by
  have HS := Lib.hid (RS.start hp he #[.string ⟨a.tag.toArray⟩, .int .i64 a.kind, .string ⟨a.mbox.toArray⟩, .slice A1 a.set.length k1, .int .i64 a.items, .int .i64 a.mode, .bool a.silent, .int .u8 a.flags, .slice A2 a.data.length k2])
  have HB := Lib.hid ((below_al w (.cells #[.string ⟨a.tag.toArray⟩, .int .i64 a.kind, .string ⟨a.mbox.toArray⟩, .slice A1 a.set.length k1, .int .i64 a.items, .int .i64 a.mode, .bool a.silent, .int .u8 a.flags, .slice A2 a.data.length k2] 26)).mono hp.hw)
  have MB := Lib.hid (fun W (h : Env W) => cmbox_any a.mbox (by omega) W h)
  have ML := Lib.hid (mboxT_len (b := a.mbox) (by omega))
  clear hp he
  unfold ciV at *
  generalize hX : l ++ 32 :: mboxT a.mbox = X
  have HX := Lib.hid hX
  clear hX
  go_enter Tryz.func123, Tryz.ntmps123
  go_upto_region 1 with (fail)
  generalize w.alloc (.cells #[.string ⟨a.tag.toArray⟩, .int .i64 a.kind, .string ⟨a.mbox.toArray⟩, .slice A1 a.set.length k1, .int .i64 a.items, .int .i64 a.mode, .bool a.silent, .int .u8 a.flags, .slice A2 a.data.length k2] 26) = W2 at *
  obtain ⟨x0, x1, x2, x3, x4, x5, x6, x7, x8⟩ := cells9 HS.out.row
  have MB2 := Lib.hid (MB.out W2 HS.out.env.env)
  clear MB
  go_wp2_with fail
  refine MB2.out.mono ?_
  rintro e w3 ⟨rfl, hb3⟩
  have P3 := Lib.hid (rs_put (mboxT a.mbox) (by omega) (by have := ML.out; omega) (HS.out.below hb3))
  have HB3 := Lib.hid (HB.out.trans (hb3.mono HS.out.put.hw))
  clear hb3 x0 x1 x2 x3 x4 x5 x6 x7 x8
  go_wp2_with fail
  refine P3.out.mono ?_
  rintro e w4 ⟨rfl, ⟨g', h4⟩, hb4⟩
  have H4 := Lib.hid h4
  have HB4 := Lib.hid (HB3.out.trans hb4)
  clear h4 hb4
  go_wp2_with fail
  go_end0
  exact ⟨rfl, ⟨g', by rw [← HX.out]; exact H4.out.put⟩, HB4.out⟩

set_option maxRecDepth 100000 in
set_option maxHeartbeats 2000000 in
theorem wappend_any (tag mbox data : List UInt8) (set : List R) (kind items mode : Int) (flags : Nat) (silent : Bool) (hl : l.length ≤ 1000000) (l3 : mbox.length ≤ 100000) (l2 : data.length ≤ 100000) (hf : flags ≤ 31) (hp : PutB B bb g l w) (he : EnvB B w) (s2 : ByAt B w A2 k2 data) :
    Calls Tryz.prog 124 #[ciV ⟨tag, kind, mbox, set, items, mode, silent, flags, data⟩ A1 A2 k1 k2, .func (.func 80) #[] #[.pointer (some ⟨bb, 0, none⟩)]] w
      (WrPost B bb (l ++ ((32 :: mboxT mbox) ++ ((if 0 < flags then 32 :: listL flags else []) ++ 32 :: literalL data))) w) := by
  have HS := Lib.hid (RS.start hp he #[.string ⟨tag.toArray⟩, .int .i64 kind, .string ⟨mbox.toArray⟩, .slice A1 set.length k1, .int .i64 items, .int .i64 mode, .bool silent, .int .u8 (flags : Int), .slice A2 data.length k2])
  have HB := Lib.hid ((below_al w (.cells #[.string ⟨tag.toArray⟩, .int .i64 kind, .string ⟨mbox.toArray⟩, .slice A1 set.length k1, .int .i64 items, .int .i64 mode, .bool silent, .int .u8 (flags : Int), .slice A2 data.length k2] 26)).mono hp.hw)
  have MB := Lib.hid (fun W (h : Env W) => cmbox_any mbox (by omega) W h)
  have LT := Lib.hid (fun W (h : Env W) (hW : Below B w W) => literal_any B A2 k2 data (by omega) W h (s2.below hW))
  have LI := Lib.hid (fun W => flist_any flags (by omega) W)
  have ML := Lib.hid (mboxT_len (b := mbox) (by omega))
  have LL := Lib.hid (lit_len8 (b := data) (by omega))
  have FL := Lib.hid (listL_len8 hf)
  clear hp he s2
  obtain ⟨m, hm⟩ : ∃ m, data.length = m := ⟨_, rfl⟩
  unfold ciV at *
  rw [hm] at HS HB LT
  simp only [hm]
  clear hm
  generalize hX : l ++ ((32 :: mboxT mbox) ++ ((if 0 < flags then 32 :: listL flags else []) ++ 32 :: literalL data)) = X
  have HX := Lib.hid hX
  clear hX
  go_enter Tryz.func124, Tryz.ntmps124
  go_upto_region 1 with (fail)
  generalize w.alloc (.cells #[.string ⟨tag.toArray⟩, .int .i64 kind, .string ⟨mbox.toArray⟩, .slice A1 set.length k1, .int .i64 items, .int .i64 mode, .bool silent, .int .u8 (flags : Int), .slice A2 m k2] 26) = W2 at *
  obtain ⟨x0, x1, x2, x3, x4, x5, x6, x7, x8⟩ := cells9 HS.out.row
  have MB2 := Lib.hid (MB.out W2 HS.out.env.env)
  clear MB
  go_wp2_with fail
  refine MB2.out.mono ?_
  rintro e w3 ⟨rfl, hb3⟩
  have P3 := Lib.hid (rs_put (mboxT mbox) (by omega) (by have := ML.out; omega) (HS.out.below hb3))
  have HB3 := Lib.hid (HB.out.trans (hb3.mono HS.out.put.hw))
  clear hb3 x0 x1 x2 x3 x4 x5 x6 x7 x8 HS
  go_wp2_with fail
  refine P3.out.mono ?_
  rintro e w4 ⟨rfl, ⟨g', h4⟩, hb4⟩
  have H4 := Lib.hid h4
  have HB4 := Lib.hid (HB3.out.trans hb4)
  have N4 : Hid ((l ++ 32 :: mboxT mbox).length ≤ 2000000) := Lib.hid (by rw [List.length_append, List.length_cons]; have := ML.out; omega)
  clear h4 hb4
  obtain ⟨x0, x1, x2, x3, x4, x5, x6, x7, x8⟩ := cells9 H4.out.row
  by_cases hfl : 0 < flags
  · have d1 : ((flags : Int) != 0) = true := by simp; omega
    have d2 : (flags != 0) = true := by simp; omega
    have HF := Lib.hid (show (if 0 < flags then 32 :: listL flags else []) = 32 :: listL flags from if_pos hfl)
    clear hfl
    go_wp2_with fail
    refine (LI.out _).mono ?_
    rintro e w5 ⟨rfl, hb5⟩
    have P5 := Lib.hid (rs_put (listL flags) (by have := N4.out; omega) (by have := FL.out; omega) (H4.out.below hb5))
    have HB5 := Lib.hid (HB4.out.trans (hb5.mono H4.out.put.hw))
    clear hb5 x0 x1 x2 x3 x4 x5 x6 x7 x8
    go_wp2_with fail
    refine P5.out.mono ?_
    rintro e w6 ⟨rfl, ⟨g6, h6⟩, hb6⟩
    have H6 := Lib.hid h6
    have HB6 := Lib.hid (HB5.out.trans hb6)
    have LT6 := Lib.hid (LT.out w6 H6.out.env.env HB6.out)
    clear h6 hb6
    obtain ⟨x0, x1, x2, x3, x4, x5, x6, x7, x8⟩ := cells9 H6.out.row
    go_wp2_with fail
    refine LT6.out.mono ?_
    rintro e w7 ⟨A', c', rfl, hy, hb7⟩
    have cv := convS _ w7 A' c' _ (literalL data) hy rfl
    have P7 := Lib.hid (rs_put (literalL data) (by rw [List.length_append, List.length_cons]; have := FL.out; have := N4.out; omega) (by have := LL.out; omega) (H6.out.below hb7))
    have HB7 := Lib.hid (HB6.out.trans (hb7.mono H6.out.put.hw))
    clear hb7 hy x0 x1 x2 x3 x4 x5 x6 x7 x8
    generalize (literalL data).length = q at *
    go_wp2_with fail
    refine P7.out.mono ?_
    rintro e w8 ⟨rfl, ⟨g8, h8⟩, hb8⟩
    have H8 := Lib.hid h8
    have HB8 := Lib.hid (HB7.out.trans hb8)
    clear h8 hb8
    go_wp2_with fail
    go_end0
    exact ⟨rfl, ⟨g8, by rw [← HX.out, HF.out]; simpa using H8.out.put⟩, HB8.out⟩
  · have d1 : ((flags : Int) != 0) = false := by simp; omega
    have d2 : (flags != 0) = false := by simp; omega
    have HF := Lib.hid (show (if 0 < flags then 32 :: listL flags else []) = [] from if_neg hfl)
    have LT4 := Lib.hid (LT.out w4 H4.out.env.env HB4.out)
    clear hfl
    go_wp2_with fail
    refine LT4.out.mono ?_
    rintro e w7 ⟨A', c', rfl, hy, hb7⟩
    have cv := convS _ w7 A' c' _ (literalL data) hy rfl
    have P7 := Lib.hid (rs_put (literalL data) (by have := N4.out; omega) (by have := LL.out; omega) (H4.out.below hb7))
    have HB7 := Lib.hid (HB4.out.trans (hb7.mono H4.out.put.hw))
    clear hb7 hy x0 x1 x2 x3 x4 x5 x6 x7 x8
    generalize (literalL data).length = q at *
    go_wp2_with fail
    refine P7.out.mono ?_
    rintro e w8 ⟨rfl, ⟨g8, h8⟩, hb8⟩
    have H8 := Lib.hid h8
    have HB8 := Lib.hid (HB7.out.trans hb8)
    clear h8 hb8
    go_wp2_with fail
    go_end0
    exact ⟨rfl, ⟨g8, by rw [← HX.out, HF.out]; simpa using H8.out.put⟩, HB8.out⟩

set_option maxRecDepth 100000 in
set_option maxHeartbeats 2000000 in
theorem wfetch_any (tag mbox data : List UInt8) (set : List R) (kind mode flags : Int) (items : Nat) (silent : Bool) (hl : l.length ≤ 1000000) (l1 : set.length ≤ 10000) (hb : ∀ r ∈ set, r.1 ≤ 4294967295 ∧ r.2 ≤ 4294967295) (hi : items ≤ 31) (hp : PutB B bb g l w) (he : EnvB B w) (s1 : SlAt encR 2 w A1 set) :
    Calls Tryz.prog 125 #[ciV ⟨tag, kind, mbox, set, items, mode, silent, flags, data⟩ A1 A2 k1 k2, .func (.func 80) #[] #[.pointer (some ⟨bb, 0, none⟩)]] w
      (WrPost B bb (l ++ ((32 :: printL set) ++ 32 :: itemsT items)) w) := by
  have hal := below_al w (.cells #[.string ⟨tag.toArray⟩, .int .i64 kind, .string ⟨mbox.toArray⟩, .slice A1 set.length k1, .int .i64 (items : Int), .int .i64 mode, .bool silent, .int .u8 flags, .slice A2 data.length k2] 26)
  have HS := Lib.hid (RS.start hp he #[.string ⟨tag.toArray⟩, .int .i64 kind, .string ⟨mbox.toArray⟩, .slice A1 set.length k1, .int .i64 (items : Int), .int .i64 mode, .bool silent, .int .u8 flags, .slice A2 data.length k2])
  have HB := Lib.hid (hal.mono hp.hw)
  have PR := Lib.hid (print_any A1 k1 set (by omega) hb _ (s1.below hal) HS.out.env.env)
  have NM := Lib.hid (fun W => pnames_any items (by omega) W)
  have JN := Lib.hid (fun v (W : World) base (hO : W.ownsRow base 9 1 v ((eachL items).map itemB).length (flatL encS ((eachL items).map itemB))) => joinS_any ((eachL items).map itemB) v base W hO (by rw [List.length_map]; have := bitsK_le items 5; exact Nat.le_trans this (by decide)) (by
    have h := itemsT_len8 hi
    unfold itemsT at h
    simp only [List.length_cons, List.length_append, List.length_nil] at h
    omega))
  have PL := Lib.hid (printL_len8 hb)
  have IL := Lib.hid (itemsT_len8 hi)
  have HI := Lib.hid (show itemsT items = 40 :: (spL ((eachL items).map itemB) ++ [41]) from rfl)
  clear hp he s1 hal
  obtain ⟨m, hm⟩ : ∃ m, set.length = m := ⟨_, rfl⟩
  unfold ciV at *
  rw [hm] at HS HB PR PL l1
  simp only [hm]
  clear hm
  generalize (eachL items).map itemB = ns at *
  generalize hX : l ++ ((32 :: printL set) ++ 32 :: itemsT items) = X
  have HX := Lib.hid hX
  clear hX
  go_enter Tryz.func125, Tryz.ntmps125
  go_upto_region 1 with (fail)
  generalize w.alloc (.cells #[.string ⟨tag.toArray⟩, .int .i64 kind, .string ⟨mbox.toArray⟩, .slice A1 m k1, .int .i64 (items : Int), .int .i64 mode, .bool silent, .int .u8 flags, .slice A2 data.length k2] 26) = W2 at *
  obtain ⟨x0, x1, x2, x3, x4, x5, x6, x7, x8⟩ := cells9 HS.out.row
  go_wp2_with fail
  refine PR.out.mono ?_
  rintro e w3 ⟨rfl, hb3⟩
  have P3 := Lib.hid (rs_put (printL set) (by omega) (by have := PL.out; omega) (HS.out.below hb3))
  have HB3 := Lib.hid (HB.out.trans (hb3.mono HS.out.put.hw))
  clear hb3 x0 x1 x2 x3 x4 x5 x6 x7 x8 HS PR
  go_wp2_with fail
  refine P3.out.mono ?_
  rintro e w4 ⟨rfl, ⟨g', h4⟩, hb4⟩
  have H4 := Lib.hid h4
  have HB4 := Lib.hid (HB3.out.trans hb4)
  have N4 : Hid ((l ++ 32 :: printL set).length ≤ 2000000) := Lib.hid (by rw [List.length_append, List.length_cons]; have := PL.out; omega)
  clear h4 hb4
  obtain ⟨x0, x1, x2, x3, x4, x5, x6, x7, x8⟩ := cells9 H4.out.row
  go_wp2_with fail
  refine (NM.out _).mono ?_
  rintro e w5 ⟨v, rfl, hO, hb5⟩
  have J5 := Lib.hid (JN.out v w5 _ hO)
  have H5 := Lib.hid (H4.out.below hb5)
  have HB5 := Lib.hid (HB4.out.trans (hb5.mono H4.out.put.hw))
  obtain ⟨Av, cv, rfl⟩ := own_any hO
  clear hb5 hO x0 x1 x2 x3 x4 x5 x6 x7 x8 NM JN
  go_wp2_with fail
  refine J5.out.mono ?_
  rintro e w6 ⟨rfl, hb6⟩
  have hsz : (ByteArray.mk (spL ns).toArray).size ≤ 60 := by
    rw [bsz]
    have h := IL.out
    rw [HI.out] at h
    simp only [List.length_cons, List.length_append, List.length_nil] at h
    omega
  have HC := Lib.hid (show ByteArray.mk #[40] ++ ByteArray.mk (spL ns).toArray ++ ByteArray.mk #[41] = ByteArray.mk (itemsT items).toArray by
    rw [HI.out]
    apply ByteArray.ext
    simp [ByteArray.data_append])
  have P6 := Lib.hid (rs_put (itemsT items) (by have := N4.out; omega) (by have := IL.out; omega) (H5.out.below hb6))
  have HB6 := Lib.hid (HB5.out.trans (hb6.mono H5.out.put.hw))
  rw [← HC.out] at P6
  have z1 : (ByteArray.mk #[40]).size = 1 := rfl
  have z2 : (ByteArray.mk #[41]).size = 1 := rfl
  clear hb6
  generalize ByteArray.mk (spL ns).toArray = sb at *
  go_wp2_with fail
  refine P6.out.mono ?_
  rintro e w8 ⟨rfl, ⟨g8, h8⟩, hb8⟩
  have H8 := Lib.hid h8
  have HB8 := Lib.hid (HB6.out.trans hb8)
  clear h8 hb8
  go_wp2_with fail
  go_end0
  exact ⟨rfl, ⟨g8, by rw [← HX.out]; simpa using H8.out.put⟩, HB8.out⟩

set_option maxRecDepth 100000 in
set_option maxHeartbeats 2000000 in
theorem wstore_any (tag mbox data : List UInt8) (set : List R) (kind items : Int) (mode flags : Nat) (silent : Bool) (hl : l.length ≤ 1000000) (l1 : set.length ≤ 10000) (hb : ∀ r ∈ set, r.1 ≤ 4294967295 ∧ r.2 ≤ 4294967295) (hm2 : mode ≤ 2) (hf : flags ≤ 31) (hp : PutB B bb g l w) (he : EnvB B w) (s1 : SlAt encR 2 w A1 set) :
    Calls Tryz.prog 126 #[ciV ⟨tag, kind, mbox, set, items, mode, silent, flags, data⟩ A1 A2 k1 k2, .func (.func 80) #[] #[.pointer (some ⟨bb, 0, none⟩)]] w
      (WrPost B bb (l ++ ((32 :: printL set) ++ ((32 :: modeT mode silent) ++ 32 :: listL flags))) w) := by
  have hal := below_al w (.cells #[.string ⟨tag.toArray⟩, .int .i64 kind, .string ⟨mbox.toArray⟩, .slice A1 set.length k1, .int .i64 items, .int .i64 (mode : Int), .bool silent, .int .u8 (flags : Int), .slice A2 data.length k2] 26)
  have HS := Lib.hid (RS.start hp he #[.string ⟨tag.toArray⟩, .int .i64 kind, .string ⟨mbox.toArray⟩, .slice A1 set.length k1, .int .i64 items, .int .i64 (mode : Int), .bool silent, .int .u8 (flags : Int), .slice A2 data.length k2])
  have HB := Lib.hid (hal.mono hp.hw)
  have PR := Lib.hid (print_any A1 k1 set (by omega) hb _ (s1.below hal) HS.out.env.env)
  have MO := Lib.hid (fun W => pmode_any mode hm2 silent W)
  have LI := Lib.hid (fun W => flist_any flags (by omega) W)
  have PL := Lib.hid (printL_len8 hb)
  have OL := Lib.hid (modeT_len8 mode silent)
  have FL := Lib.hid (listL_len8 hf)
  clear hp he s1 hal
  obtain ⟨m, hm⟩ : ∃ m, set.length = m := ⟨_, rfl⟩
  unfold ciV at *
  rw [hm] at HS HB PR PL l1
  simp only [hm]
  clear hm
  generalize hX : l ++ ((32 :: printL set) ++ ((32 :: modeT mode silent) ++ 32 :: listL flags)) = X
  have HX := Lib.hid hX
  clear hX
  go_enter Tryz.func126, Tryz.ntmps126
  go_upto_region 1 with (fail)
  generalize w.alloc (.cells #[.string ⟨tag.toArray⟩, .int .i64 kind, .string ⟨mbox.toArray⟩, .slice A1 m k1, .int .i64 items, .int .i64 (mode : Int), .bool silent, .int .u8 (flags : Int), .slice A2 data.length k2] 26) = W2 at *
  obtain ⟨x0, x1, x2, x3, x4, x5, x6, x7, x8⟩ := cells9 HS.out.row
  go_wp2_with fail
  refine PR.out.mono ?_
  rintro e w3 ⟨rfl, hb3⟩
  have P3 := Lib.hid (rs_put (printL set) (by omega) (by have := PL.out; omega) (HS.out.below hb3))
  have HB3 := Lib.hid (HB.out.trans (hb3.mono HS.out.put.hw))
  clear hb3 x0 x1 x2 x3 x4 x5 x6 x7 x8 HS PR
  go_wp2_with fail
  refine P3.out.mono ?_
  rintro e w4 ⟨rfl, ⟨g', h4⟩, hb4⟩
  have H4 := Lib.hid h4
  have HB4 := Lib.hid (HB3.out.trans hb4)
  have N4 : Hid ((l ++ 32 :: printL set).length ≤ 2000000) := Lib.hid (by rw [List.length_append, List.length_cons]; have := PL.out; omega)
  clear h4 hb4
  obtain ⟨x0, x1, x2, x3, x4, x5, x6, x7, x8⟩ := cells9 H4.out.row
  have P5 := Lib.hid (rs_put (modeT mode silent) (by have := N4.out; omega) (by have := OL.out; omega) H4.out)
  go_wp2_with fail
  refine (MO.out _).mono ?_
  rintro e w5 ⟨rfl, rfl⟩
  go_wp2_with fail
  refine P5.out.mono ?_
  rintro e w6 ⟨rfl, ⟨g6, h6⟩, hb6⟩
  have H6 := Lib.hid h6
  have HB6 := Lib.hid (HB4.out.trans hb6)
  clear h6 hb6 x0 x1 x2 x3 x4 x5 x6 x7 x8
  obtain ⟨x0, x1, x2, x3, x4, x5, x6, x7, x8⟩ := cells9 H6.out.row
  go_wp2_with fail
  refine (LI.out _).mono ?_
  rintro e w7 ⟨rfl, hb7⟩
  have P7 := Lib.hid (rs_put (listL flags) (by rw [List.length_append, List.length_cons]; have := N4.out; have := OL.out; omega) (by have := FL.out; omega) (H6.out.below hb7))
  have HB7 := Lib.hid (HB6.out.trans (hb7.mono H6.out.put.hw))
  clear hb7 x0 x1 x2 x3 x4 x5 x6 x7 x8
  go_wp2_with fail
  refine P7.out.mono ?_
  rintro e w8 ⟨rfl, ⟨g8, h8⟩, hb8⟩
  have H8 := Lib.hid h8
  have HB8 := Lib.hid (HB7.out.trans hb8)
  clear h8 hb8
  go_wp2_with fail
  go_end0
  exact ⟨rfl, ⟨g8, by rw [← HX.out]; simpa using H8.out.put⟩, HB8.out⟩
end
end Go.Proofs.YtpgfnlhfciacoaaGreatDoor
