/- command: Parse. -/
import Derived.Test.YthfopimgdikpgaaGreatDoorCmdTop
namespace Go.Proofs.YthfopimgdikpgaaGreatDoor
open Go.RowKit Go.Maps Go.Shelf

set_option maxRecDepth 100000 in
set_option maxHeartbeats 4000000 in
theorem command_bad (B c : Nat) (A : Option Addr) (l t : List UInt8) (hl : l.length ≤ 9000) (w : World) (henv : Env w) (hA : ByAt B w A c l) (hno : tagO l = some t) (hbad : ∀ ts, IsToks (l.drop (t.length + 1)) ts (-1) → bodyO t ts = none) :
    Calls Tryz.prog 10 #[.slice A l.length c] w (CPost l w) := by
  have hmf : ∀ (fn : Fn) (first cap : Array Value) (w : World), (Instr.makeFunc fn first cap).run Tryz.prog w = .ok (.func fn first cap) w := fun _ _ _ _ => rfl
  have hmx : Tryz.prog.follows .mixedOrders = true := by kernel_rfl
  have NT := Lib.hid (fun w1 => need_t w1)
  have B1 := below_al w (.cells #[.string ⟨#[]⟩, .int .i64 0, .string ⟨#[]⟩, .slice none 0 0, .int .i64 0, .int .i64 0, .bool false, .int .u8 0, .slice none 0 0] 27)
  have B2 := below_next B1 (below_al _ (.cells #[.bool false] 4))
  have TG := tagTok_any B A c l l.length rfl (by omega) _ (hA.grow B2)
  obtain ⟨n, hn⟩ : ∃ n, t.length + 1 = n := ⟨_, rfl⟩
  have hnl : n ≤ l.length := by
    unfold tagO at hno
    split at hno
    · rename_i h
      simp at hno
      have := (List.getElem?_eq_some_iff.1 h.2).1
      rw [hno] at this
      omega
    · cases hno
  rw [show tagV l = .tuple #[.string ⟨t.toArray⟩, .int .i64 (n : Int), .bool true] by unfold tagV; rw [hno, ← hn]; rfl] at TG
  have TG := Lib.hid TG
  have hsl := fun W => slice_l A l.length c n hnl W
  have PN := fun W (hB : Below w.heap.size w W) => parse7_no B (c - n) (offA A c n) t (l.drop n) (by rw [List.length_drop]; omega) W (henv.below hB) ((hA.grow hB).drop hnl) (by rw [← hn]; exact hbad)
  simp only [List.length_drop] at PN
  have PN := Lib.hid PN
  have HB2 := Lib.hid B2
  have hr1 := heap_alloc_new w (.cells #[.string ⟨#[]⟩, .int .i64 0, .string ⟨#[]⟩, .slice none 0 0, .int .i64 0, .int .i64 0, .bool false, .int .u8 0, .slice none 0 0] 27)
  have hr2 := ((below_al (w.alloc (.cells #[.string ⟨#[]⟩, .int .i64 0, .string ⟨#[]⟩, .slice none 0 0, .int .i64 0, .int .i64 0, .bool false, .int .u8 0, .slice none 0 0] 27)) (.cells #[.bool false] 4)).block w.heap.size (by simp)).trans hr1
  have hr3 := heap_alloc_new (w.alloc (.cells #[.string ⟨#[]⟩, .int .i64 0, .string ⟨#[]⟩, .slice none 0 0, .int .i64 0, .int .i64 0, .bool false, .int .u8 0, .slice none 0 0] 27)) (.cells #[.bool false] 4)
  rw [World.size_alloc] at hr3
  have HR2 := Lib.hid hr2
  have HR3 := Lib.hid hr3
  have HNO := Lib.hid hno
  have HN := Lib.hid hn
  have HSL := Lib.hid hsl
  clear hA B1 B2 hr1 hr2 hr3 hno hl hbad hn henv hnl hsl
  go_enter_defers Tryz.func10, Tryz.ntmps10
  go_wp2_with fail
  refine TG.out.mono ?_
  rintro e w1 ⟨rfl, hb⟩
  have hs1 := hb.size
  rw [World.size_alloc, World.size_alloc] at hs1
  have HR2' := Lib.hid ((hb.block w.heap.size (by simp; omega)).trans HR2.out)
  have HR3' := Lib.hid ((hb.block (w.heap.size + 1) (by simp)).trans HR3.out)
  have HB3 := Lib.hid (below_next HB2.out hb)
  clear hb TG HR2 HR3 HB2
  go_wp2_with fail
  refine (NT.out _).mono ?_
  rintro e w2 ⟨rfl, rfl⟩
  go_wp2_with fail
  rename_i K hK
  refine wp_region_any (ops := topOps) hmx ?_
  change wpAny _ _ _ _ _ _ _ (World.drew _)
  have hbt := (below_al w1 (.cells #[.string ⟨t.toArray⟩] 9))
  have HBT : Below w.heap.size w (w1.alloc (.cells #[.string ⟨t.toArray⟩] 9)).drew := belDraw (HB3.out.trans (hbt.mono (by omega)))
  have hcb : (w1.alloc (.cells #[.string ⟨t.toArray⟩] 9)).drew.heap[w.heap.size]? = some (.cells zeroC 27 (0, 0)) := ((belDraw hbt).block w.heap.size (by omega)).trans HR2'.out
  have hob : (w1.alloc (.cells #[.string ⟨t.toArray⟩] 9)).drew.heap[w.heap.size + 1]? = some (.cells #[.bool false] 4 (0, 0)) := ((belDraw hbt).block (w.heap.size + 1) (by omega)).trans HR3'.out
  have htb : (w1.alloc (.cells #[.string ⟨t.toArray⟩] 9)).drew.cell? ⟨w1.heap.size, 0, none⟩ = some (.string ⟨t.toArray⟩) := by simp
  have hsz : (w1.alloc (.cells #[.string ⟨t.toArray⟩] 9)).drew.heap.size = w1.heap.size + 1 := World.size_alloc _ _
  have hcl := PN.out _ HBT
  generalize (w1.alloc (.cells #[.string ⟨t.toArray⟩] 9)).drew = W0 at *
  refine top_region (G := False) (cm := cmd0 []) (n1 := w.heap.size + 2) (w := w) rfl rfl rfl rfl rfl rfl htb HSL.out (by omega) (Nat.le_refl _) (by omega) (by omega) (by omega) (hcl.mono ?_) (fun _ _ _ _ _ _ hS => hS.good.elim)
  rintro e w' ⟨⟨ts, x, h1, h2⟩, rfl, hb⟩
  refine .inr ⟨rfl, fun a hd hlow => ?_⟩
  have h2' := hlow 2 (by omega)
  have h3' := hlow 3 (by omega)
  obtain ⟨tm, df⟩ := a
  simp only at hd h2' h3'
  subst hd
  exact door_panic l t w1.heap.size w.heap.size (w.heap.size + 1) _ _ _ _ _ _ _ _ _ _ w w' tm (by omega) (Nat.le_refl _) (by omega) (HBT.trans (hb.mono (by omega))) ((hb.cell (p := ⟨w1.heap.size, 0, none⟩) (show w1.heap.size < W0.heap.size by omega)).trans htb) ((hb.block w.heap.size (by omega)).trans hcb) ((hb.block (w.heap.size + 1) (by omega)).trans hob) h2' h3' (.bad HNO.out (by rw [HN.out]; exact h1.out) h2.out)

set_option maxRecDepth 100000 in
set_option maxHeartbeats 4000000 in
theorem command_ok (B c : Nat) (A : Option Addr) (l t : List UInt8) (hl : l.length ≤ 9000) (w : World) (henv : Env w) (hA : ByAt B w A c l) (hno : tagO l = some t) {ts : List Tok} {cm : Cmd} (hts : IsToks (l.drop (t.length + 1)) ts (-1)) (hcm : bodyO t ts = some cm) :
    Calls Tryz.prog 10 #[.slice A l.length c] w (CPost l w) := by
  have hmf : ∀ (fn : Fn) (first cap : Array Value) (w : World), (Instr.makeFunc fn first cap).run Tryz.prog w = .ok (.func fn first cap) w := fun _ _ _ _ => rfl
  have hmx : Tryz.prog.follows .mixedOrders = true := by kernel_rfl
  have NT := Lib.hid (fun w1 => need_t w1)
  have B1 := below_al w (.cells #[.string ⟨#[]⟩, .int .i64 0, .string ⟨#[]⟩, .slice none 0 0, .int .i64 0, .int .i64 0, .bool false, .int .u8 0, .slice none 0 0] 27)
  have B2 := below_next B1 (below_al _ (.cells #[.bool false] 4))
  have TG := tagTok_any B A c l l.length rfl (by omega) _ (hA.grow B2)
  obtain ⟨n, hn⟩ : ∃ n, t.length + 1 = n := ⟨_, rfl⟩
  have hnl : n ≤ l.length := by
    unfold tagO at hno
    split at hno
    · rename_i h
      simp at hno
      have := (List.getElem?_eq_some_iff.1 h.2).1
      rw [hno] at this
      omega
    · cases hno
  rw [show tagV l = .tuple #[.string ⟨t.toArray⟩, .int .i64 (n : Int), .bool true] by unfold tagV; rw [hno, ← hn]; rfl] at TG
  have TG := Lib.hid TG
  have hsl := fun W => slice_l A l.length c n hnl W
  have PN := fun W (hB : Below w.heap.size w W) => parse7_ok B (c - n) (offA A c n) t (l.drop n) (by rw [List.length_drop]; omega) W (henv.below hB) ((hA.grow hB).drop hnl) (by rw [← hn]; exact hts) hcm
  simp only [List.length_drop] at PN
  have PN := Lib.hid PN
  have HB2 := Lib.hid B2
  have hr1 := heap_alloc_new w (.cells #[.string ⟨#[]⟩, .int .i64 0, .string ⟨#[]⟩, .slice none 0 0, .int .i64 0, .int .i64 0, .bool false, .int .u8 0, .slice none 0 0] 27)
  have hr2 := ((below_al (w.alloc (.cells #[.string ⟨#[]⟩, .int .i64 0, .string ⟨#[]⟩, .slice none 0 0, .int .i64 0, .int .i64 0, .bool false, .int .u8 0, .slice none 0 0] 27)) (.cells #[.bool false] 4)).block w.heap.size (by simp)).trans hr1
  have hr3 := heap_alloc_new (w.alloc (.cells #[.string ⟨#[]⟩, .int .i64 0, .string ⟨#[]⟩, .slice none 0 0, .int .i64 0, .int .i64 0, .bool false, .int .u8 0, .slice none 0 0] 27)) (.cells #[.bool false] 4)
  rw [World.size_alloc] at hr3
  have HR2 := Lib.hid hr2
  have HR3 := Lib.hid hr3
  have HNO := Lib.hid hno
  have HN := Lib.hid hn
  have HSL := Lib.hid hsl
  have HC : Hid (IsCmd l cm true) := Lib.hid (.good hno hts hcm)
  clear hA B1 B2 hr1 hr2 hr3 hno hl hn henv hnl hsl hts hcm
  go_enter_defers Tryz.func10, Tryz.ntmps10
  go_wp2_with fail
  refine TG.out.mono ?_
  rintro e w1 ⟨rfl, hb⟩
  have hs1 := hb.size
  rw [World.size_alloc, World.size_alloc] at hs1
  have HR2' := Lib.hid ((hb.block w.heap.size (by simp; omega)).trans HR2.out)
  have HR3' := Lib.hid ((hb.block (w.heap.size + 1) (by simp)).trans HR3.out)
  have HB3 := Lib.hid (below_next HB2.out hb)
  clear hb TG HR2 HR3 HB2
  go_wp2_with fail
  refine (NT.out _).mono ?_
  rintro e w2 ⟨rfl, rfl⟩
  go_wp2_with fail
  rename_i K hK
  refine wp_region_any (ops := topOps) hmx ?_
  change wpAny _ _ _ _ _ _ _ (World.drew _)
  have hbt := (below_al w1 (.cells #[.string ⟨t.toArray⟩] 9))
  have HBT : Below w.heap.size w (w1.alloc (.cells #[.string ⟨t.toArray⟩] 9)).drew := belDraw (HB3.out.trans (hbt.mono (by omega)))
  have hcb : (w1.alloc (.cells #[.string ⟨t.toArray⟩] 9)).drew.heap[w.heap.size]? = some (.cells zeroC 27 (0, 0)) := ((belDraw hbt).block w.heap.size (by omega)).trans HR2'.out
  have hob : (w1.alloc (.cells #[.string ⟨t.toArray⟩] 9)).drew.heap[w.heap.size + 1]? = some (.cells #[.bool false] 4 (0, 0)) := ((belDraw hbt).block (w.heap.size + 1) (by omega)).trans HR3'.out
  have htb : (w1.alloc (.cells #[.string ⟨t.toArray⟩] 9)).drew.cell? ⟨w1.heap.size, 0, none⟩ = some (.string ⟨t.toArray⟩) := by simp
  have hsz : (w1.alloc (.cells #[.string ⟨t.toArray⟩] 9)).drew.heap.size = w1.heap.size + 1 := World.size_alloc _ _
  have hcl := PN.out _ HBT
  generalize (w1.alloc (.cells #[.string ⟨t.toArray⟩] 9)).drew = W0 at *
  refine top_region (G := True) (cm := cm) (n1 := w.heap.size + 2) (w := w) rfl rfl rfl rfl rfl rfl htb HSL.out (by omega) (Nat.le_refl _) (by omega) (by omega) (by omega) (hcl.mono ?_) ?_
  · rintro e w' ⟨sv, dv, rfl, hv, hn, hb⟩
    refine .inl ⟨sv, dv, rfl, HBT.trans (hb.mono (by omega)), hv.out, fun b off s n k e => ?_, fun b off s n k e => ?_, (hb.block w.heap.size (by omega)).trans hcb, trivial, (hb.block (w.heap.size + 1) (by omega)).trans hob⟩
    · have := hn.out.1 b off s n k e; omega
    · have := hn.out.2 b off s n k e; omega
  · intro a W sv dv hd hlow hS
    refine hK a W ?_
    have h2' := hlow 2 (by omega)
    have h3' := hlow 3 (by omega)
    obtain ⟨tm, df⟩ := a
    simp only at hd h2' h3'
    subst hd
    clear hlow hcl hsz htb hob hcb HBT hbt HB3 HR3' HR2' hK PN HSL NT
    go_wp2_with fail
    refine leaves_cons (f := 26) (args := #[.pointer (some ⟨w1.heap.size, 0, none⟩), .pointer (some ⟨w.heap.size, 0, none⟩), .pointer (some ⟨w.heap.size + 1, 0, none⟩)]) (by simp) (by simp [go_sem]) ?_
    refine (catch_idle _ _ _ W).mono ?_
    rintro e u' w2 ⟨rfl, rfl, rfl⟩
    have hcmd := hS.cmd
    have hns := hS.ns
    have hnd := hS.nd
    have hC := hS.cbk
    have hO := hS.obk
    have hB := hS.below
    clear hS
    have hC' : w2.heap[w.heap.size]? = some (.cells #[.string ⟨cm.tag.toArray⟩, .int .i64 (cm.kind : Int), .string ⟨cm.mbox.toArray⟩, sv, .int .i64 (cm.items : Int), .int .i64 (cm.mode : Int), .bool cm.silent, .int .u8 (cm.flags : Int), dv] 27 (0, 0)) := hC
    have q0 := cell_of_row _ _ 0 _ _ _ hC'
    have q1 := cell_of_row _ _ 1 _ _ _ hC'
    have q2 := cell_of_row _ _ 2 _ _ _ hC'
    have q3 := cell_of_row _ _ 3 _ _ _ hC'
    have q4 := cell_of_row _ _ 4 _ _ _ hC'
    have q5 := cell_of_row _ _ 5 _ _ _ hC'
    have q6 := cell_of_row _ _ 6 _ _ _ hC'
    have q7 := cell_of_row _ _ 7 _ _ _ hC'
    have q8 := cell_of_row _ _ 8 _ _ _ hC'
    have r0 := cell_of_row _ _ 0 _ _ _ hO
    refine ⟨.tuple #[.agg (cmdA cm sv dv), .bool true], by simp [results, Tryz.results10, go_sem, h2', h3', cmdA, q0, q1, q2, q3, q4, q5, q6, q7, q8, r0], cm, true, _, HC.out, rfl, ⟨hcmd, cm, sv, dv, rfl, hns.mono (by omega), hnd.mono (by omega)⟩, hB⟩

/-- Parse, at all bytes. -/
theorem command_any (B c : Nat) (A : Option Addr) (l : List UInt8) (hl : l.length ≤ 9000) (w : World) (henv : Env w) (hA : ByAt B w A c l) :
    Calls Tryz.prog 10 #[.slice A l.length c] w (CPost l w) := by
  cases ht : tagO l with
  | none => exact command_none B c A l hl w hA ht
  | some t =>
    by_cases h : ∃ ts cm, IsToks (l.drop (t.length + 1)) ts (-1) ∧ bodyO t ts = some cm
    · obtain ⟨ts, cm, h1, h2⟩ := h
      exact command_ok B c A l t hl w henv hA ht h1 h2
    · refine command_bad B c A l t hl w henv hA ht (fun ts h1 => ?_)
      cases h2 : bodyO t ts with
      | none => rfl
      | some cm => exact absurd ⟨ts, cm, h1, h2⟩ h
end Go.Proofs.YthfopimgdikpgaaGreatDoor
