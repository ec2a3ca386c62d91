/- The law RespEnds: the walk. -/
import Derived.Test.YtcpbgceplgcblaaDoorGj
import Derived.Test.YtcpbgceplgcblaaDoorRsRefV4
import Derived.Test.YtcpbgceplgcblaaDoorRsFew
import Derived.Test.YtcpbgceplgcblaaDoorDigMath
import Derived.Test.YtcpbgceplgcblaaDoorL9F
import Derived.Deep.Cut
namespace Go.Proofs.YtcpbgceplgcblaaDoor
open Go.RowKit

/-- No byte of a form but the last two is a line's end, where there is no body. -/
def NoLn (l : List UInt8) : Prop := (13 : UInt8) ∉ l ∧ (10 : UInt8) ∉ l
theorem noLn_app {a b : List UInt8} (ha : NoLn a) (hb : NoLn b) : NoLn (a ++ b) := ⟨by simp [ha.1, hb.1], by simp [ha.2, hb.2]⟩
theorem noLn_dec (u : Nat) : NoLn (Lib.decDigits u) := by
  have h := (dec_facts u).1
  rw [List.all_eq_true] at h
  exact ⟨fun hm => by have := h _ hm; revert this; decide, fun hm => by have := h _ hm; revert this; decide⟩
theorem noLn_list : ∀ f : Fin 32, (listL f.val).contains 13 = false ∧ (listL f.val).contains 10 = false := by decide +kernel
theorem noLn_flags {f : Nat} (h : f ≤ 31) : NoLn (listL f) := by
  have := noLn_list ⟨f, by omega⟩
  exact ⟨by simpa using this.1, by simpa using this.2⟩
theorem noLn_txt {l : List UInt8} (h : txtL l = true) : NoLn l := by
  unfold txtL at h
  rw [Bool.and_eq_true, List.all_eq_true] at h
  exact ⟨fun hm => by have := h.2 _ hm; revert this; decide, fun hm => by have := h.2 _ hm; revert this; decide⟩
theorem noLn_tg {l : List UInt8} (h : tgL l = true) : NoLn l := by
  unfold tgL at h
  rw [Bool.and_eq_true, List.all_eq_true] at h
  exact ⟨fun hm => by have := h.2 _ hm; revert this; decide, fun hm => by have := h.2 _ hm; revert this; decide⟩
theorem noLn_sp : ∀ {ps : List (List UInt8)}, (∀ p ∈ ps, NoLn p) → NoLn (spL ps)
  | [], _ => ⟨by decide, by decide⟩
  | [p], h => by rw [spL_one]; exact h p (by simp)
  | p :: q :: ps, h => by
    rw [spL_cons]
    have ih := noLn_sp (ps := q :: ps) (fun x hx => h x (by simp [hx]))
    exact noLn_app (h p (by simp)) (noLn_app (a := [32]) ⟨by decide, by decide⟩ ih)
theorem line_noLn {r : RI} (hf : rsFit r = true) (hb : rsBit r.items 16 = false) : NoLn (rsLine r) := by
  unfold rsFit at hf
  unfold rsLine
  split
  · have hw : NoLn (rsWord r.kind) := by unfold rsWord; split <;> (try split) <;> exact ⟨by decide, by decide⟩
    exact noLn_app (noLn_app (noLn_app ⟨by decide, by decide⟩ (noLn_dec _)) ⟨by decide, by decide⟩) hw
  rename_i h1
  rw [if_neg h1] at hf
  split
  · rename_i h4
    rw [if_pos h4] at hf
    simp only [Bool.and_eq_true, decide_eq_true_eq] at hf
    refine noLn_app (noLn_app (noLn_app (noLn_app ⟨by decide, by decide⟩ (noLn_dec _)) ⟨by decide, by decide⟩) (noLn_sp fun p hp => ?_)) ⟨by decide, by decide⟩
    unfold rsParts at hp
    rw [hb] at hp
    simp only [List.mem_append] at hp
    rcases hp with hp | hp | hp | hp
    · split at hp
      · rw [List.mem_singleton] at hp
        subst hp
        exact noLn_app ⟨by decide, by decide⟩ (noLn_flags hf.2.1)
      · cases hp
    · split at hp
      · rw [List.mem_singleton] at hp
        subst hp
        exact noLn_app ⟨by decide, by decide⟩ (noLn_dec _)
      · cases hp
    · split at hp
      · rw [List.mem_singleton] at hp
        subst hp
        exact noLn_app ⟨by decide, by decide⟩ (noLn_dec _)
      · cases hp
    · simp at hp
  rename_i h4
  rw [if_neg h4] at hf
  split
  · exact noLn_app ⟨by decide, by decide⟩ (noLn_flags (by omega))
  rename_i h5
  rw [if_neg h5] at hf
  split
  · rename_i h9
    rw [if_pos h9] at hf
    simp only [Bool.and_eq_true] at hf
    have hst : NoLn (rsStat r.status) := by unfold rsStat; split <;> (try split) <;> exact ⟨by decide, by decide⟩
    exact noLn_app (noLn_app (noLn_app (noLn_app (noLn_tg hf.1) ⟨by decide, by decide⟩) hst) ⟨by decide, by decide⟩) (noLn_txt hf.2.1)
  · rename_i h9
    rw [if_neg h9] at hf
    split at hf
    · have hp : NoLn (rsPre r.kind) := by unfold rsPre; split <;> (try split) <;> (try split) <;> exact ⟨by decide, by decide⟩
      exact noLn_app hp (noLn_txt hf)
    · cases hf

set_option maxRecDepth 100000 in
set_option maxHeartbeats 1000000 in
theorem bindex_none (A : Option Addr) (c n : Nat) (l : List UInt8) (x : UInt8) (hn : l.length = n) (hl : n ≤ 1000000) (hx : x ∉ l) (w : World) (hA : ByAt w.heap.size w A c l) :
    Calls Tryd.prog 36 #[.slice A n c, .int .u8 (x.toNat : Int)] w fun e w' => e = .returned (.int .i64 (-1)) ∧ w = w' := by
  have HA := Lib.hid hA
  have HN := Lib.hid hn
  have HX := Lib.hid (show ∀ (j : Nat) (h : j < l.length), (l[j].toNat : Int) ≠ (x.toNat : Int) from fun j h e => hx (by
    have : l[j] = x := UInt8.toNat_inj.1 (by omega)
    rw [← this]
    exact List.getElem_mem h))
  clear hA hn hx
  generalize x.toNat = y at *
  go_enter Tryd.func36, Tryd.ntmps36
  go_wp2_with fail
  go_loop [8] (fun i => ∃ k : Nat, k ≤ n ∧ i = .int .i64 (k : Int)) (fun i => n - (intOf i).toNat)
  case atStart => exact ⟨0, Nat.zero_le _, rfl⟩
  case round =>
    obtain ⟨k, hk, rfl⟩ := hrel
    by_cases hlt : k < n
    · have hlx : k < l.length := by rw [HN.out]; exact hlt
      obtain ⟨b, off, rfl, -, -, c0⟩ := HA.out.cell hlx
      have hk0 : (0 : Int) ≤ (k : Int) := by omega
      have hk1 : (k : Int) < (n : Int) := by omega
      have hne := HX.out k hlx
      generalize l[k].toNat = z at *
      have e1 : ((y : Int) == (z : Int)) = false := by simp; omega
      have e2 : ¬ (y : Int) = (z : Int) := fun e => hne e.symm
      clear hne
      go_wp2_with fail
      go_round
      case rel => exact ⟨k + 1, by omega, by go_num⟩
      case measure => simp [intOf]; omega
    · obtain rfl : k = n := by omega
      go_wp2_with fail
      go_ret
      exact ⟨rfl, rfl⟩
set_option maxRecDepth 100000 in
theorem bcontains_none (A : Option Addr) (c n : Nat) (l : List UInt8) (x : UInt8) (y : Int) (hy : (x.toNat : Int) = y) (hn : l.length = n) (hl : n ≤ 1000000) (hx : x ∉ l) (w : World) (hA : ByAt w.heap.size w A c l) :
    Calls Tryd.prog 25 #[.slice A n c, .int .u8 y] w fun e w' => e = .returned (.bool false) ∧ w = w' := by
  subst hy
  have IX := Lib.hid (bindex_none A c n l x hn hl hx w hA)
  clear hA hn hx hl
  generalize x.toNat = y at *
  go_enter Tryd.func25, Tryd.ntmps25
  go_wp2_with fail
  refine IX.out.mono ?_
  rintro e w1 ⟨rfl, rfl⟩
  go_wp2_with fail
  go_ret
  exact ⟨rfl, rfl⟩

set_option maxRecDepth 100000 in
set_option maxHeartbeats 4000000 in
theorem respEnds_any (r : RI) (A : Option Addr) (k : Nat) (hr : RIok r) (w : World) (henv : Env w) (hA : ByAt w.heap.size w A k r.body) :
    Calls Tryd.prog 8 #[rsV r A k] w fun e w' => e = .returned (.bool true) ∧ Below w.heap.size w w' := by
  have AL := Lib.hid (fun W (hW : Below w.heap.size w W) => alive9_any W (henv.below hW))
  have BX := RsBox.new w r A k
  have B0 := below_al w (.cells #[.int .i64 r.kind, .int .u32 (r.n : Int), .string ⟨r.tag.toArray⟩, .int .i64 r.status, .string ⟨r.text.toArray⟩, .int .i64 r.items, .int .u8 (r.flags : Int), .int .u32 (r.uid : Int), .int .u32 (r.size : Int), .slice A r.body.length k] 26)
  have HA1 := (hA.below B0).here
  have B1 := below_next B0 (below_al _ (.cells (encRx ⟨r, A, k⟩).toArray 26))
  have FW := rfew9_any [⟨r, A, k⟩] (some ⟨w.heap.size + 1, 0, none⟩) 1 1 rfl (by unfold maxLen; omega) ((w.alloc (.cells #[.int .i64 r.kind, .int .u32 (r.n : Int), .string ⟨r.tag.toArray⟩, .int .i64 r.status, .string ⟨r.text.toArray⟩, .int .i64 r.items, .int .u8 (r.flags : Int), .int .u32 (r.uid : Int), .int .u32 (r.size : Int), .slice A r.body.length k] 26)).alloc (.cells (encRx ⟨r, A, k⟩).toArray 26)) (by have := rsAt_one (w := w.alloc (.cells #[.int .i64 r.kind, .int .u32 (r.n : Int), .string ⟨r.tag.toArray⟩, .int .i64 r.status, .string ⟨r.text.toArray⟩, .int .i64 r.items, .int .u8 (r.flags : Int), .int .u32 (r.uid : Int), .int .u32 (r.size : Int), .slice A r.body.length k] 26)) HA1; rwa [World.size_alloc] at this)
  rw [few_one] at FW
  have BX1 := Lib.hid (BX.below (below_al _ (.cells (encRx ⟨r, A, k⟩).toArray 26)))
  have HB1 := Lib.hid B1
  unfold encRx at *
  have HFW := Lib.hid FW
  cases hf : fewR r with
  | false =>
    have FW := Lib.hid (hf ▸ HFW.out)
    clear HFW hf BX B0 B1 HA1 hA henv hr BX1
    unfold rsV
    go_enter Tryd.func8, Tryd.ntmps8
    go_wp2_with fail
    refine FW.out.mono ?_
    rintro e w1 ⟨rfl, rfl⟩
    go_wp2_with fail
    refine (AL.out _ HB1.out).mono ?_
    rintro e w2 ⟨rfl, hb⟩
    have HB2 := Lib.hid (below_next HB1.out hb)
    clear hb
    go_wp2_with fail
    go_ret
    exact ⟨rfl, HB2.out⟩
  | true =>
    have FW := Lib.hid (hf ▸ HFW.out)
    have hs := few_sm hf
    have PN := Lib.hid (fun W (hW : Below w.heap.size w W) => print9_any r hr hs A k W (henv.below hW) (hA.below hW).here)
    have RV := Lib.hid (fun W (hW : Below w.heap.size w W) => rvalid9_any r hr hs A k W (hA.below hW).here)
    have HLL := Lib.hid (line_len r hr hs)
    clear HFW hf BX B0 B1 HA1 hA henv hr hs
    have HU : Hid (rsV r A k = .agg #[.int .i64 r.kind, .int .u32 (r.n : Int), .string ⟨r.tag.toArray⟩, .int .i64 r.status, .string ⟨r.text.toArray⟩, .int .i64 r.items, .int .u8 (r.flags : Int), .int .u32 (r.uid : Int), .int .u32 (r.size : Int), .slice A r.body.length k]) := Lib.hid rfl
    rw [HU.out] at PN RV ⊢
    clear HU
    go_enter Tryd.func8, Tryd.ntmps8
    go_wp2_with fail
    refine FW.out.mono ?_
    rintro e w1 ⟨rfl, rfl⟩
    clear FW
    go_upto_region 3 with (fail)
    generalize hW1 : (w.alloc (.cells #[.int .i64 r.kind, .int .u32 (r.n : Int), .string ⟨r.tag.toArray⟩, .int .i64 r.status, .string ⟨r.text.toArray⟩, .int .i64 r.items, .int .u8 (r.flags : Int), .int .u32 (r.uid : Int), .int .u32 (r.size : Int), .slice A r.body.length k] 26)).alloc (.cells #[.int .i64 r.kind, .int .u32 (r.n : Int), .string ⟨r.tag.toArray⟩, .int .i64 r.status, .string ⟨r.text.toArray⟩, .int .i64 r.items, .int .u8 (r.flags : Int), .int .u32 (r.uid : Int), .int .u32 (r.size : Int), .slice A r.body.length k] 26) = w1 at *
    clear hW1
    obtain ⟨x0, x1, x2, x3, x4, x5, x6, x7, x8, x9⟩ := BX1.out.cells
    go_wp2_with fail
    refine (PN.out _ HB1.out).mono ?_
    rintro e w2 (⟨hok, A2, c2, rfl, hy, hb⟩ | ⟨hok, rfl, hb⟩)
    · have HOK := Lib.hid hok
      have HB2 := Lib.hid (below_next HB1.out hb)
      have BX2 := Lib.hid (BX1.out.below hb)
      have HY := Lib.hid hy
      obtain ⟨m, hm⟩ : ∃ m, (rsLine r).length = m := ⟨_, rfl⟩
      have HN := Lib.hid (show (rsForm r).length = m + 2 by unfold rsForm; rw [List.length_append, hm]; rfl)
      have hm6 : m ≤ 60000 := by rw [← hm]; exact HLL.out
      have HM := Lib.hid hm
      have e13 : (rsForm r)[m]? = some 13 := by unfold rsForm; rw [List.getElem?_append_right (by omega), hm, Nat.sub_self]; rfl
      have e10 : (rsForm r)[m + 1]? = some 10 := by unfold rsForm; rw [List.getElem?_append_right (by omega), hm, Nat.add_sub_cancel_left]; rfl
      have HTK := Lib.hid (show (rsForm r).take m = rsLine r by unfold rsForm; rw [← hm, List.take_left'] ; rfl)
      obtain ⟨b, off, rfl, -, hblt, c13⟩ := hy.cell (j := m) (by rw [HN.out]; omega)
      obtain ⟨b', off', hA', -, -, c10⟩ := hy.cell (j := m + 1) (by rw [HN.out]; omega)
      obtain ⟨rfl, rfl⟩ : b = b' ∧ off = off' := by injection hA' with h; injection h with h1 h2; exact ⟨h1, h2⟩
      rw [show (rsForm r)[m]'(by rw [HN.out]; omega) = 13 from by rw [List.getElem?_eq_getElem (by rw [HN.out]; omega)] at e13; exact Option.some.inj e13] at c13
      rw [show (rsForm r)[m + 1]'(by rw [HN.out]; omega) = 10 from by rw [List.getElem?_eq_getElem (by rw [HN.out]; omega)] at e10; exact Option.some.inj e10] at c10
      have HLE := Lib.hid hy.le
      have hc2 : m + 2 ≤ c2 := by have := hy.le; rw [HN.out] at this; exact this
      have c13 : w2.cell? ⟨b, off + m, none⟩ = some (.int .u8 13) := c13
      have c10 : w2.cell? ⟨b, off + (m + 1), none⟩ = some (.int .u8 10) := c10
      have HSB : Hid (w2.heap.size = w2.heap.size) := Lib.hid rfl
      have sl := fun W => (sliceAt_eq (.slice (some ⟨b, off, none⟩) (m + 2) c2) none (some (.int .i64 (m : Int))) none W).trans (slice_h (some ⟨b, off, none⟩) (m + 2) c2 m (by omega) W)
      have SL := Lib.hid sl
      rw [HN.out]
      have hi0 : (0 : Int) ≤ (m : Int) := by omega
      clear hok hb hy hm hA' e13 e10 sl x0 x1 x2 x3 x4 x5 x6 x7 x8 x9 BX1 HB1 PN RV HSB
      obtain ⟨x0, x1, x2, x3, x4, x5, x6, x7, x8, x9⟩ := BX2.out.cells
      go_wp2_with fail
      refine (AL.out _ HB2.out).mono ?_
      rintro e w3 ⟨rfl, hb⟩
      have HB3 := Lib.hid (below_next HB2.out hb)
      have BX3 := Lib.hid (BX2.out.below hb)
      have HY3 := Lib.hid (show ByAt w3.heap.size w3 (some ⟨b, off, none⟩) c2 (rsLine r) by
        have := ((HY.out.below hb).here).take (hi := m) (by rw [HN.out]; omega)
        rwa [HTK.out] at this)
      clear hb x0 x1 x2 x3 x4 x5 x6 x7 x8 x9 BX2 HB2 c13 c10 HY
      obtain ⟨x0, x1, x2, x3, x4, x5, x6, x7, x8, x9⟩ := BX3.out.cells
      cases hq : rsBit r.items 16 with
      | true =>
        have e16 : (bits BinOp.and IntKind.i64 r.items 16 != 0) = true := hq
        clear hq
        go_wp2_with fail
        go_ret
        exact ⟨rfl, HB3.out⟩
      | false =>
        have e16 : (bits BinOp.and IntKind.i64 r.items 16 != 0) = false := hq
        have NL := line_noLn (ok_fit HOK.out) hq
        have C1 := Lib.hid (bcontains_none (some ⟨b, off, none⟩) c2 m (rsLine r) 13 13 rfl HM.out (by omega) NL.1 w3 HY3.out)
        have C2 := Lib.hid (bcontains_none (some ⟨b, off, none⟩) c2 m (rsLine r) 10 10 rfl HM.out (by omega) NL.2 w3 HY3.out)
        have sl := SL.out
        clear hq NL
        go_wp2_with fail
        refine C1.out.mono ?_
        rintro e w4 ⟨rfl, rfl⟩
        go_wp2_with fail
        refine C2.out.mono ?_
        rintro e w4 ⟨rfl, rfl⟩
        go_wp2_with fail
        go_ret
        exact ⟨rfl, HB3.out⟩
    · have HOK := Lib.hid hok
      have HB2 := Lib.hid (below_next HB1.out hb)
      have BX2 := Lib.hid (BX1.out.below hb)
      clear hok hb x0 x1 x2 x3 x4 x5 x6 x7 x8 x9 BX1 HB1 PN
      go_wp2_with fail
      refine (AL.out _ HB2.out).mono ?_
      rintro e w3 ⟨rfl, hb⟩
      have HB3 := Lib.hid (below_next HB2.out hb)
      have BX3 := Lib.hid (BX2.out.below hb)
      clear hb BX2 HB2
      obtain ⟨x0, x1, x2, x3, x4, x5, x6, x7, x8, x9⟩ := BX3.out.cells
      go_wp2_with fail
      refine (RV.out _ HB3.out).mono ?_
      rw [HOK.out]
      rintro e w4 ⟨rfl, hb⟩
      have HB4 := Lib.hid (below_next HB3.out hb)
      clear hb x0 x1 x2 x3 x4 x5 x6 x7 x8 x9 BX3 HB3
      go_wp2_with fail
      go_ret
      exact ⟨rfl, HB4.out⟩
end Go.Proofs.YtcpbgceplgcblaaDoor
