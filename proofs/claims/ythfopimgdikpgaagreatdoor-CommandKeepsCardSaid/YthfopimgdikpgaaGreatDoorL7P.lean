/- The law CommandParses. -/
import Derived.Test.YthfopimgdikpgaaGreatDoorGz
import Derived.Test.YthfopimgdikpgaaGreatDoorSame7R
import Derived.Test.YthfopimgdikpgaaGreatDoorCmdAlive
namespace Go.Proofs.YthfopimgdikpgaaGreatDoor
open Go.RowKit

/-- A command's fields as Same takes them. -/
def ciOf (c : Cmd) : CI := { tag := c.tag, kind := c.kind, mbox := c.mbox, set := c.set, items := c.items, mode := c.mode, silent := c.silent, flags := c.flags, data := c.data }
theorem sameC_refl (a : CI) : sameC a a = true := by simp [sameC]
/-- Same of the reference, at two commands that read alike. -/
theorem rsame_cmd (c d : Cmd) (A1 A2 A3 A4 : Option Addr) (k1 k2 k3 k4 : Nat) (l1 : c.set.length ≤ 1000000) (l2 : c.data.length ≤ 1000000) (l3 : d.set.length ≤ 1000000) (l4 : d.data.length ≤ 1000000) (h2 : c.data.length ≤ k2) (h4 : d.data.length ≤ k4) (w : World) (s1 : SlAt encR 2 w A1 c.set) (s2 : SlAt encB 1 w A2 c.data) (s3 : SlAt encR 2 w A3 d.set) (s4 : SlAt encB 1 w A4 d.data) :
    Calls Tryz.prog 12 #[.agg (cmdA c (.slice A1 c.set.length k1) (.slice A2 c.data.length k2)), .agg (cmdA d (.slice A3 d.set.length k3) (.slice A4 d.data.length k4))] w fun e w' => e = .returned (.bool (sameC (ciOf c) (ciOf d))) ∧ Below w.heap.size w w' :=
  rsame_any (ciOf c) (ciOf d) A1 A2 A3 A4 _ k1 _ k2 _ k3 _ k4 rfl rfl rfl rfl l1 l2 l3 l4 w s1 (ByAt.of_sl s2 h2) s3 (ByAt.of_sl s4 h4)

/-! What a parsed command may hold. -/
theorem appR_bd {c c' : Cmd} {l : List Tok} (h : appR c l = some c') : c'.set = c.set ∧ ∃ d ∈ l, c'.data = d.text := by
  rcases List.eq_nil_or_concat l with rfl | ⟨m, d, rfl⟩
  · simp [appR] at h
  rw [List.concat_eq_append] at *
  by_cases h6 : d.kind = 6
  rotate_left
  · rw [appR_bad c m d h6] at h; cases h
  rcases List.eq_nil_or_concat m with rfl | ⟨m, s, rfl⟩
  · rw [List.nil_append, appR_one c d h6] at h
    cases h
    exact ⟨rfl, d, by simp, rfl⟩
  rw [List.concat_eq_append] at *
  rw [appR_more c m s d h6] at h
  split at h
  · rw [Option.map_eq_some_iff] at h
    obtain ⟨g, _, rfl⟩ := h
    exact ⟨rfl, d, by simp, rfl⟩
  · cases h
theorem fetR_bd {c c' : Cmd} {l : List Tok} (h : fetR c l = some c') : c'.set = c.set ∧ c'.data = c.data := by
  rw [fetR_is, Option.map_eq_some_iff] at h
  obtain ⟨g, _, rfl⟩ := h
  exact ⟨rfl, rfl⟩
theorem stoR_bd {c c' : Cmd} {l : List Tok} (h : stoR c l = some c') : c'.set = c.set ∧ c'.data = c.data := by
  unfold stoR at h
  split at h
  · split at h
    · simp only [Option.bind_eq_some_iff, Option.map_eq_some_iff] at h
      obtain ⟨mo, _, g, _, rfl⟩ := h
      exact ⟨rfl, rfl⟩
    · cases h
  · cases h
theorem parseP_bd (x : List UInt8) (hx : x.length ≤ 9000) : (parseP x).1.length ≤ 9001 := by
  have h := split7_len 44 x
  unfold parseP
  split
  · simp; omega
  · simp
theorem bodyR_bd {tag : List UInt8} {l : List Tok} {c : Cmd} (h : bodyR tag l = some c) (hl : ∀ t ∈ l, t.text.length ≤ 9000) : c.set.length ≤ 9001 ∧ c.data.length ≤ 9000 := by
  rcases l with _ | ⟨t, r⟩
  · simp [bodyR] at h
  by_cases h4 : t.kind = 4
  rotate_left
  · rw [bodyR_no4 tag h4] at h; cases h
  by_cases h0 : kindL t.text = 0
  · rw [bodyR_zero tag h0] at h; cases h
  by_cases hle : kindL t.text ≤ 4
  · rw [bodyR_low tag h4 h0 hle] at h
    split at h
    · cases h; simp [cmd0]
    · cases h
  have hk : 4 < kindL t.text := by omega
  rcases r with _ | ⟨s, _ | ⟨m, q⟩⟩
  · rw [bodyR_short tag hk (by simp)] at h; cases h
  · rw [bodyR_short tag hk (by simp)] at h; cases h
  by_cases hs : s.kind = 1
  rotate_left
  · rw [bodyR_nos tag hk hs] at h; cases h
  by_cases h6 : kindL t.text ≤ 6
  · rw [bodyR_mbox tag h4 hk h6 hs] at h
    split at h
    · cases h
    split at h
    · split at h
      · cases h; simp [cmd0]
      · cases h
    rcases q with _ | ⟨z, d⟩
    · cases h
    · replace h : (if z.kind = 1 then appR { cmd0 tag with kind := kindL t.text, mbox := m.text } d else none) = some c := h
      split at h
      · obtain ⟨e1, x, hx, e2⟩ := appR_bd h
        rw [e1, e2]
        exact ⟨by simp [cmd0], hl x (by simp [hx])⟩
      · cases h
  · rw [bodyR_set tag h4 (by omega) hs] at h
    have hp := parseP_bd m.text (hl m (by simp))
    split at h
    · cases h
    rcases q with _ | ⟨z, d⟩
    · cases h
    · replace h : (if z.kind = 1 ∧ d ≠ [] then (if kindL t.text = 7 then fetR { cmd0 tag with kind := kindL t.text, set := (parseP m.text).1 } d else stoR { cmd0 tag with kind := kindL t.text, set := (parseP m.text).1 } d) else none) = some c := h
      split at h
      · split at h
        · obtain ⟨e1, e2⟩ := fetR_bd h
          rw [e1, e2]
          exact ⟨hp, by simp [cmd0]⟩
        · obtain ⟨e1, e2⟩ := stoR_bd h
          rw [e1, e2]
          exact ⟨hp, by simp [cmd0]⟩
      · cases h
theorem IsCmd.bd {l : List UInt8} {c : Cmd} {b : Bool} (h : IsCmd l c b) (_ : l.length ≤ 9000) : c.set.length ≤ 9001 ∧ c.data.length ≤ 9000 := by
  cases h with
  | noTag _ => simp [cmd0]
  | bad _ _ _ => simp [cmd0]
  | good e i o =>
    have hf := Fin.toks (by rw [List.length_drop]; omega) i
    obtain ⟨l', e', rfl, he0, _, hok, hl'⟩ := hf
    rw [body_is (fun x hx => ⟨(hok x hx).1, (hok x hx).2.1⟩) (fun x hx h => ((hok x hx).2.2.2 h).1) (fun x hx => by have := (hok x hx).2.2.1; omega) he0] at o
    exact bodyR_bd o (fun x hx => (hok x hx).2.2.1)

set_option maxRecDepth 100000 in
set_option maxHeartbeats 1000000 in
theorem commandParses_any (A : Option Addr) (c : Nat) (l : List UInt8) (_hl : l.length ≤ maxLen) (w : World) (henv : Env w) (hA : ByAt w.heap.size w A c l) :
    Calls Tryz.prog 3 #[.slice A l.length c] w fun e w' => e = .returned (.bool true) ∧ Below w.heap.size w w' := by
  have AL := Lib.hid (fun W (hW : Below w.heap.size w W) => alive7_any W (henv.below hW))
  by_cases h2 : 2000 < l.length
  · have d1 : decide ((2000 : Int) < (l.length : Int)) = true := by simp; omega
    have d2 : decide (2000 < l.length) = true := by simpa using h2
    clear hA h2
    generalize l.length = n at *
    go_enter Tryz.func3, Tryz.ntmps3
    go_wp2_with fail
    refine (AL.out w (Below.refl _ _)).mono ?_
    rintro e w1 ⟨rfl, hb⟩
    go_wp2_with fail
    go_ret
    exact ⟨rfl, hb⟩
  · have d1 : decide ((2000 : Int) < (l.length : Int)) = false := by simp; omega
    have d2 : decide (2000 < l.length) = false := by simpa using h2
    have PA := Lib.hid (command_any w.heap.size c A l (by omega) w henv hA)
    have RP := Lib.hid (fun W (hW : Below w.heap.size w W) => rcommand_any w.heap.size c A l (by omega) W (hA.grow hW))
    have HL : Hid (l.length ≤ 9000) := Lib.hid (by omega)
    clear hA h2 henv
    go_enter Tryz.func3, Tryz.ntmps3
    go_wp2_with fail
    refine PA.out.mono ?_
    rintro e w1 ⟨cm, ok, v, hi, rfl, ⟨⟨_, _, rfl, ⟨A1, k1, rfl, h1a, h1b⟩, A2, k2, rfl, h2a, h2b⟩, _⟩, hb1⟩
    have BD := Lib.hid (hi.bd HL.out)
    have hx := heap_alloc_new w1 (.cells (cmdA cm (.slice A1 cm.set.length k1) (.slice A2 cm.data.length k2)) 27)
    have b12 := below_al w1 (.cells (cmdA cm (.slice A1 cm.set.length k1) (.slice A2 cm.data.length k2)) 27)
    have HB2 := Lib.hid (hb1.trans (b12.mono hb1.size))
    have HX := Lib.hid hx
    have S1 := Lib.hid (h1b.below b12)
    have S2 := Lib.hid (h2b.below b12)
    have HI := Lib.hid hi
    have L2 := Lib.hid h2a
    have hs2 : w1.heap.size + 1 = _ := (World.size_alloc w1 (.cells (cmdA cm (.slice A1 cm.set.length k1) (.slice A2 cm.data.length k2)) 27)).symm
    unfold cmdA at *
    clear hx b12 h1b h2b hi hb1 PA h1a h2a
    go_upto_region 4 with (fail)
    generalize w1.alloc (.cells #[.string ⟨cm.tag.toArray⟩, .int .i64 (cm.kind : Int), .string ⟨cm.mbox.toArray⟩, .slice A1 cm.set.length k1, .int .i64 (cm.items : Int), .int .i64 (cm.mode : Int), .bool cm.silent, .int .u8 (cm.flags : Int), .slice A2 cm.data.length k2] 27) = w2 at *
    go_wp2_with fail
    refine (RP.out _ HB2.out).mono ?_
    rintro e w3 ⟨cm', ok', v, hi, rfl, ⟨⟨_, _, rfl, ⟨A3, k3, rfl, h1a, h1b⟩, A4, k4, rfl, h2a, h2b⟩, _⟩, hb3⟩
    obtain ⟨rfl, rfl⟩ := HI.out.det hi
    have b34 := below_al w3 (.cells #[.string ⟨cm.tag.toArray⟩, .int .i64 (cm.kind : Int), .string ⟨cm.mbox.toArray⟩, .slice A3 cm.set.length k3, .int .i64 (cm.items : Int), .int .i64 (cm.mode : Int), .bool cm.silent, .int .u8 (cm.flags : Int), .slice A4 cm.data.length k4] 27)
    have b24 := below_next hb3 b34
    have HX4 := Lib.hid ((b24.block w1.heap.size (by omega)).trans HX.out)
    have HY4 := Lib.hid (heap_alloc_new w3 (.cells #[.string ⟨cm.tag.toArray⟩, .int .i64 (cm.kind : Int), .string ⟨cm.mbox.toArray⟩, .slice A3 cm.set.length k3, .int .i64 (cm.items : Int), .int .i64 (cm.mode : Int), .bool cm.silent, .int .u8 (cm.flags : Int), .slice A4 cm.data.length k4] 27))
    have HB4 := Lib.hid (HB2.out.trans (b24.mono HB2.out.size))
    have S1 := Lib.hid (S1.out.below b24)
    have S2 := Lib.hid (S2.out.below b24)
    have S3 := Lib.hid (h1b.below b34)
    have S4 := Lib.hid (h2b.below b34)
    have L4 := Lib.hid h2a
    have hs3 := hb3.size
    have hs4 := World.size_alloc w3 (.cells #[.string ⟨cm.tag.toArray⟩, .int .i64 (cm.kind : Int), .string ⟨cm.mbox.toArray⟩, .slice A3 cm.set.length k3, .int .i64 (cm.items : Int), .int .i64 (cm.mode : Int), .bool cm.silent, .int .u8 (cm.flags : Int), .slice A4 cm.data.length k4] 27)
    unfold cmdA
    clear b24 b34 h1b h2b h1a h2a hi hb3 RP HX HB2
    go_upto_region 5 with (fail)
    generalize w3.alloc (.cells #[.string ⟨cm.tag.toArray⟩, .int .i64 (cm.kind : Int), .string ⟨cm.mbox.toArray⟩, .slice A3 cm.set.length k3, .int .i64 (cm.items : Int), .int .i64 (cm.mode : Int), .bool cm.silent, .int .u8 (cm.flags : Int), .slice A4 cm.data.length k4] 27) = w4 at *
    go_wp2_with fail
    refine (AL.out _ HB4.out).mono ?_
    rintro e w5 ⟨rfl, hb5⟩
    obtain ⟨x0, x1, x2, x3, x4, x5, x6, x7, x8⟩ := cells9 ((hb5.block w1.heap.size (by omega)).trans HX4.out)
    obtain ⟨y0, y1, y2, y3, y4, y5, y6, y7, y8⟩ := cells9 ((hb5.block w3.heap.size (by omega)).trans HY4.out)
    have SM := Lib.hid (rsame_cmd cm cm A1 A2 A3 A4 k1 k2 k3 k4 (by have := BD.out.1; omega) (by have := BD.out.2; omega) (by have := BD.out.1; omega) (by have := BD.out.2; omega) L2.out L4.out w5 (S1.out.below hb5) (S2.out.below hb5) (S3.out.below hb5) (S4.out.below hb5))
    rw [sameC_refl] at SM
    unfold cmdA at SM
    have HB5 := Lib.hid (HB4.out.trans (hb5.mono HB4.out.size))
    clear S1 S2 S3 S4 L2 L4 hb5 AL HX4 HY4 HB4 BD HI
    cases ok
    all_goals
      go_wp2_with fail
      refine SM.out.mono ?_
      rintro e w6 ⟨rfl, hb6⟩
      go_wp2_with fail
      go_ret
      exact ⟨rfl, HB5.out.trans (hb6.mono HB5.out.size)⟩
end Go.Proofs.YthfopimgdikpgaaGreatDoor
