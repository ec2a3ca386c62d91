/- The law RespMessages: the walk. -/
import Derived.Test.YtcpbgceplgcblaaDoorGj
import Derived.Test.YtcpbgceplgcblaaDoorRsRefM4
import Derived.Test.YtcpbgceplgcblaaDoorRsSameR
import Derived.Test.YtcpbgceplgcblaaDoorEqB
import Derived.Deep.Cut
namespace Go.Proofs.YtcpbgceplgcblaaDoor
open Go.RowKit

theorem by_set9 {W W' : World} {A : Option Addr} {B c b : Nat} {l : List UInt8} (h : ByAt B W A c l) (hg : W.grownBy W' (some b)) (hle : B ≤ b) : ByAt B W' A c l := by
  refine ⟨h.le, ?_⟩
  rcases h.lies with h0 | ⟨b', off, hA, hlt, hw, hc⟩
  · exact .inl h0
  · exact .inr ⟨b', off, hA, hlt, Nat.lt_of_lt_of_le hw hg.size, fun j hj => (hg.cell_far ⟨b', off + j, none⟩ hw (fun e => by have : b' = b := Option.some.inj e; omega)).trans (hc j hj)⟩
/-- The body's row: bytes in a block of its own. -/
def Row9 (lo hi : Nat) (A : Option Addr) (n : Nat) (W : World) : Prop := 0 < n → ∃ (g : Nat) (cur : Array Value), A = some ⟨g, 0, none⟩ ∧ lo ≤ g ∧ g < hi ∧ W.heap[g]? = some (.cells cur 5 (0, 0)) ∧ ∀ x, x < n → ∃ v : Int, cur[x]? = some (.int .u8 v)
theorem cell_blk9 {W : World} {g : Nat} {cur : Array Value} {T : TypeId} {z : Nat × Nat} (h : W.heap[g]? = some (.cells cur T z)) (x : Nat) : W.cell? ⟨g, x, none⟩ = cur[x]? := by simp [World.cell?, h]
theorem row_of9 {w5 w9 : World} {lo k : Nat} {A : Option Addr} {l : List UInt8} (h : w5.ownsRow lo 5 1 (.slice A l.length k) l.length (flatL encB l)) (hb : Below w5.heap.size w5 w9) : Row9 lo w5.heap.size A l.length w9 := by
  intro hn
  have hy := ByAt.of_own h
  rcases h.2 with ⟨_, h0⟩ | ⟨g, cap, cur, h1, h2, h3, -⟩
  · omega
  · injection h1 with hA
    subst hA
    have hg := (Array.getElem?_eq_some_iff.1 h3).1
    refine ⟨g, cur, rfl, h2, hg, (hb.block g hg).trans h3, fun x hx => ?_⟩
    obtain ⟨b, off, hA, -, -, hc⟩ := hy.cell hx
    injection hA with hA
    injection hA with q1 q2
    subst q1
    subst q2
    rw [Nat.zero_add, cell_blk9 h3] at hc
    exact ⟨_, hc⟩
theorem row_step9 {w4 wr : World} {g hi n j k : Nat} {cur : Array Value} {v : Int} {r : RI} {A : Option Addr} (hg1 : w4.heap.size ≤ g) (hg2 : g < hi) (hg3 : wr.heap[g]? = some (.cells cur 5 (0, 0))) (hg4 : ∀ x, x < n → ∃ v : Int, cur[x]? = some (.int .u8 v)) (hr : RsBox hi r A k wr) (hb : Below w4.heap.size w4 wr) :
    Row9 w4.heap.size hi (some ⟨g, 0, none⟩) n (wr.setCell ⟨g, j, none⟩ (.int .u8 v)) ∧ RsBox hi r A k (wr.setCell ⟨g, j, none⟩ (.int .u8 v)) ∧ Below w4.heap.size w4 (wr.setCell ⟨g, j, none⟩ (.int .u8 v)) := by
  refine ⟨fun _ => ⟨g, cur.setIfInBounds j (.int .u8 v), rfl, hg1, hg2, Joins.block_setCell (i := j) hg3 _, fun x hx => ?_⟩, ?_, hb.setCell (p := ⟨g, j, none⟩) hg1 _⟩
  · obtain ⟨u, hu⟩ := hg4 x hx
    rw [Array.getElem?_setIfInBounds]
    by_cases h : j = x
    · rw [if_pos h, if_pos (by rw [h]; exact (Array.getElem?_eq_some_iff.1 hu).1)]
      exact ⟨_, rfl⟩
    · rw [if_neg h]
      exact ⟨u, hu⟩
  · exact ((grown_setCell wr g j (.int .u8 v)).block hi hr.lt (fun e => by have := Option.some.inj e; omega)).trans hr

set_option maxRecDepth 100000 in
set_option maxHeartbeats 4000000 in
theorem respMessages_few (n : Nat) (hn : n ≤ 4294967295) (k8 m : Nat) (hm32 : m < 32) (e1 : IntKind.i64.wrap (k8 : Int) = (k8 : Int)) (e2 : IntKind.i64.wrap (n : Int) = (n : Int)) (e3 : (k8 : Int).tmod 32 = (m : Int)) (e4 : (k8 : Int) % 32 = (m : Int)) (e5 : IntKind.i64.wrap (m : Int) = (m : Int)) (uid flags : Nat) (A : Option Addr) (k : Nat) (l : List UInt8) (hu : uid ≤ 4294967295) (nl : Nat) (hnl : l.length = nl) (h1 : nl ≤ 500) (h2 : flags ≤ 31) (w : World) (AL : Hid (∀ W, Below w.heap.size w W → Calls Tryd.prog 10 #[] W fun e w' => e = .returned (.bool true) ∧ Below W.heap.size W w')) (HS : Hid (ByAt w.heap.size w A k l)) :
    Calls Tryd.prog 7 #[.int .u32 (n : Int), .int .u8 (k8 : Int), .agg #[.int .u32 (uid : Int), .int .u8 (flags : Int), .slice A nl k]] w fun e w' => e = .returned (.bool true) ∧ Below w.heap.size w w' := by
  obtain ⟨i0, hi, hz0, hz1, hz2⟩ := info_parts infoByte
  have n1 : ¬ 500 < nl := by omega
  have n2 : ¬ 31 < flags := by omega
  have HOK := rsMsg_ok n m uid flags l hm32 (by omega) (by omega)
  have HRI := rsMsg_riok n m uid flags l hm32 hn hu (by omega) (by omega)
  have HSM := rsMsg_sm n (m : Int) uid flags l (by omega)
  have MG := fun W A c (hA : ByAt W.heap.size W A c l) => message9_any n hn (m : Int) uid flags l (by omega) A c W hA
  have RM := fun W A c (hA : ByAt W.heap.size W A c l) => rmessage9_any n m hn hm32 uid flags l (by omega) A c W hA
  rw [hnl] at MG RM
  unfold MsPost at MG RM
  generalize rsMsg n (m : Int) uid flags l = r at *
  have SM := fun W A5 k5 A6 k6 (h5 : ByAt W.heap.size W A5 k5 r.body) (h6 : ByAt W.heap.size W A6 k6 r.body) => rsame9_any r r A5 A6 k5 k6 W h5 h6
  rw [rsSame_refl] at SM
  have VD := fun W A5 k5 (h5 : ByAt W.heap.size W A5 k5 r.body) => valid9_any r HRI HSM A5 k5 W h5
  rw [HOK] at VD
  unfold rsV at MG RM SM VD
  have MG := Lib.hid MG
  have RM := Lib.hid RM
  have SM := Lib.hid SM
  have HNL := Lib.hid hnl
  have e6 : (0 ≤ (m : Int)) := by omega
  have hrl : r.body.length ≤ 1000 := HSM.body
  clear HOK HRI HSM hm32 hn hnl
  go_enter Tryd.func7, Tryd.ntmps7
  go_upto_region 4 with (fail)
  refine wp_name fun w1 hW => ?_
  have hx : w1.heap[w.heap.size]? = some (.cells #[.int .u32 (uid : Int), .int .u8 (flags : Int), .slice A nl k] 45 (0, 0)) := by rw [← hW]; exact heap_alloc_new _ _
  have hsz : w1.heap.size = w.heap.size + 1 := by rw [← hW]; exact World.size_alloc ..
  have HB1 := Lib.hid (show Below w.heap.size w w1 by rw [← hW]; exact below_al _ _)
  clear hW
  have HX := Lib.hid hx
  have HSZ := Lib.hid hsz
  obtain ⟨d0, d1, d2⟩ := cells3m (((below_al w1 (.cells #[] 5)).block w.heap.size (by omega)).trans hx)
  have HA1 := Lib.hid ((HS.out.below HB1.out).here.below (below_al w1 (.cells #[] 5)))
  have HOE := Lib.hid (own_empty (sz := 1) (heap_alloc_new w1 (.cells #[] 5)) (Nat.le_refl _))
  have H63 := Lib.hid (show 0 + l.length ≤ maxLen by rw [HNL.out]; unfold maxLen; omega)
  have HBY := Lib.hid (show (0 + l.length) * 1 ≤ 140737488355328 by rw [HNL.out]; omega)
  have HB0 := Lib.hid (below_al w1 (.cells #[] 5))
  have HSZ0 := Lib.hid HB0.out.size
  clear hx hsz
  go_upto_region 5 with (at_builtin; refine wpList_append_sl _ rfl _ _ 24 rfl w1.heap.size 5 i0 _ 1 Tryd.underlying24 hi hz0 hz1 hz2 rfl (by decide) _ 0 [] rfl HOE.out A l k (by rw [HNL.out]; rfl) encB_len HA1.out.sl (one_flatB l) H63.out HBY.out HSZ0.out ?_; intro v2 w2 hown2 hg2; rw [Nat.zero_add, List.nil_append, HNL.out] at hown2; obtain ⟨A6, k6, rfl⟩ := own_any hown2; have HB2 := Lib.hid (HB0.out.grown hg2 HSZ0.out (fun kk hkk => (HOE.out.lt kk hkk).1)); have HO := Lib.hid hown2; have hX2 := (HB2.out.block w.heap.size (by have := HSZ.out; omega)).trans HX.out; obtain ⟨d0, d1, d2⟩ := cells3m hX2; have HX2 := Lib.hid hX2; clear hown2 hg2 hX2)
  have HY2 := Lib.hid (show ByAt w2.heap.size w2 A6 k6 l by have := HO.out; rw [← HNL.out] at this; exact ByAt.of_own this)
  have HBW := Lib.hid (below_next HB1.out HB2.out)
  clear HOE HA1 H63 HBY HB0 HSZ0 HO d0 d1 d2 HX
  obtain ⟨d0, d1, d2⟩ := cells3m HX2.out
  go_upto_region 6 with (fail)
  refine wp_name fun w3 hW => ?_
  have hx : w3.heap[w2.heap.size]? = some (.cells #[.int .u32 (uid : Int), .int .u8 (flags : Int), .slice A nl k] 45 (0, 0)) := by rw [← hW]; exact heap_alloc_new _ _
  have HSZ3 := Lib.hid (show w3.heap.size = w2.heap.size + 1 by rw [← hW]; exact World.size_alloc ..)
  have hb3 : Below w2.heap.size w2 w3 := by rw [← hW]; exact below_al _ _
  clear hW d0 d1 d2
  have hlt2 : w.heap.size < w2.heap.size := by have := HB2.out.size; have := HSZ.out; omega
  have HX3 := Lib.hid ((hb3.block w.heap.size hlt2).trans HX2.out)
  have HY3 := Lib.hid (HY2.out.below hb3)
  have HB3 := Lib.hid (below_next HBW.out hb3)
  have HN3 := Lib.hid hx
  obtain ⟨q0, q1, q2⟩ := cells3m hx
  have f2 := Joins.unfrozen_of_block hx 2
  clear hb3 hx HX2 HY2 HBW HB2
  go_upto_region 7 with (fail)
  have hg4 : w3.grownBy (w3.setCell ⟨w2.heap.size, 2, none⟩ (.slice A6 nl k6)) (some w2.heap.size) := grown_setCell _ _ _ _
  have hn4 : (w3.setCell ⟨w2.heap.size, 2, none⟩ (.slice A6 nl k6)).heap[w2.heap.size]? = some (.cells #[.int .u32 (uid : Int), .int .u8 (flags : Int), .slice A6 nl k6] 45 (0, 0)) := Joins.block_setCell (i := 2) HN3.out _
  have HB4 := Lib.hid (HB3.out.grown hg4 HB3.out.size (fun j hj => by cases hj; omega))
  have HX4 := Lib.hid ((hg4.block w.heap.size (by have := HSZ3.out; omega) (fun e => by have := Option.some.inj e; omega)).trans HX3.out)
  have HY4 := Lib.hid (by_set9 HY3.out hg4 (Nat.le_refl _))
  have HSZ4 := Lib.hid (show (w3.setCell ⟨w2.heap.size, 2, none⟩ (.slice A6 nl k6)).heap.size = w2.heap.size + 1 from (Eq.trans (by simp [World.setCell]) HSZ3.out))
  clear q0 q1 q2 f2 hg4 HB3 HX3 HY3 HN3 HSZ3
  generalize w3.setCell ⟨w2.heap.size, 2, none⟩ (.slice A6 nl k6) = w4 at *
  obtain ⟨q0, q1, q2⟩ := cells3m hn4
  have MG4 := Lib.hid (MG.out w4 A6 k6 HY4.out.here)
  clear hn4 MG
  go_wp2_with fail
  refine MG4.out.mono ?_
  rintro e w5 ⟨A7, k7, rfl, hown, hb⟩
  have HY5 := Lib.hid ((HY4.out.here.below hb).here)
  have HB5 := Lib.hid (below_next HB4.out hb)
  have HX5 := Lib.hid ((hb.block w.heap.size (by have := HSZ4.out; omega)).trans HX4.out)
  have HO5 := Lib.hid hown
  have HB45 := Lib.hid hb
  clear hown hb MG4 q0 q1 q2
  go_upto_region 8 with (fail)
  refine wp_name fun w6 hW => ?_
  have hx : w6.heap[w5.heap.size]? = some (.cells #[.int .i64 r.kind, .int .u32 (r.n : Int), .string ⟨r.tag.toArray⟩, .int .i64 r.status, .string ⟨r.text.toArray⟩, .int .i64 r.items, .int .u8 (r.flags : Int), .int .u32 (r.uid : Int), .int .u32 (r.size : Int), .slice A7 r.body.length k7] 26 (0, 0)) := by rw [← hW]; exact heap_alloc_new _ _
  have hb6 : Below w5.heap.size w5 w6 := by rw [← hW]; exact below_al _ _
  have HSZ6 := Lib.hid (show w6.heap.size = w5.heap.size + 1 by rw [← hW]; exact World.size_alloc ..)
  clear hW
  have hlt5 : w.heap.size < w5.heap.size := by have := HB45.out.size; have := HSZ4.out; omega
  have hx6 := (hb6.block w.heap.size hlt5).trans HX5.out
  have HRB := Lib.hid hx
  have HY6 := Lib.hid ((HY5.out.below hb6).here)
  have HA6 := Lib.hid ((HS.out.below (below_next HB5.out hb6)).here)
  have HR6 := Lib.hid (((ByAt.of_own HO5.out).below hb6).here)
  have HB6 := Lib.hid (below_next HB5.out hb6)
  have HB46 := Lib.hid (below_next HB45.out hb6)
  have HB56 := Lib.hid hb6
  have HL5 := Lib.hid (show w5.heap.size < w6.heap.size by have := HSZ6.out; omega)
  obtain ⟨x0, x1, x2, x3, x4, x5, x6, x7, x8, x9⟩ := cells10 hx
  obtain ⟨d0, d1, d2⟩ := cells3m hx6
  have HKL : ∀ W, Below w6.heap.size w6 W → (W.cell? ⟨w5.heap.size, 0, none⟩ = some (.int .i64 r.kind) ∧ W.cell? ⟨w5.heap.size, 1, none⟩ = some (.int .u32 (r.n : Int)) ∧ W.cell? ⟨w5.heap.size, 2, none⟩ = some (.string ⟨r.tag.toArray⟩) ∧ W.cell? ⟨w5.heap.size, 3, none⟩ = some (.int .i64 r.status) ∧ W.cell? ⟨w5.heap.size, 4, none⟩ = some (.string ⟨r.text.toArray⟩) ∧ W.cell? ⟨w5.heap.size, 5, none⟩ = some (.int .i64 r.items) ∧ W.cell? ⟨w5.heap.size, 6, none⟩ = some (.int .u8 (r.flags : Int)) ∧ W.cell? ⟨w5.heap.size, 7, none⟩ = some (.int .u32 (r.uid : Int)) ∧ W.cell? ⟨w5.heap.size, 8, none⟩ = some (.int .u32 (r.size : Int)) ∧ W.cell? ⟨w5.heap.size, 9, none⟩ = some (.slice A7 r.body.length k7) ∧ W.cell? ⟨w.heap.size, 0, none⟩ = some (.int .u32 (uid : Int)) ∧ W.cell? ⟨w.heap.size, 1, none⟩ = some (.int .u8 (flags : Int)) ∧ W.cell? ⟨w.heap.size, 2, none⟩ = some (.slice A nl k) ∧ Below w6.heap.size w6 W) := fun W hW => by
    obtain ⟨x0, x1, x2, x3, x4, x5, x6, x7, x8, x9⟩ := cells10 ((hW.block w5.heap.size HL5.out).trans hx)
    obtain ⟨d0, d1, d2⟩ := cells3m ((hW.block w.heap.size (by have := HL5.out; omega)).trans hx6)
    exact ⟨x0, x1, x2, x3, x4, x5, x6, x7, x8, x9, d0, d1, d2, hW⟩
  have HKL := Lib.hid HKL
  have RM6 := Lib.hid (fun W (hW : Below w6.heap.size w6 W) => (RM.out W A k ((HA6.out.below hW).here)).mono (fun e w' (h : ∃ A' c', e = .returned (.agg #[.int .i64 r.kind, .int .u32 (r.n : Int), .string ⟨r.tag.toArray⟩, .int .i64 r.status, .string ⟨r.text.toArray⟩, .int .i64 r.items, .int .u8 (r.flags : Int), .int .u32 (r.uid : Int), .int .u32 (r.size : Int), .slice A' r.body.length c']) ∧ w'.ownsRow W.heap.size 5 1 (.slice A' r.body.length c') r.body.length (flatL encB r.body) ∧ Below W.heap.size W w') => (by obtain ⟨A', c', h1, h2, h3⟩ := h; exact ⟨A', c', h1, ByAt.of_own h2, below_next hW h3⟩ : ∃ A' c', e = .returned (.agg #[.int .i64 r.kind, .int .u32 (r.n : Int), .string ⟨r.tag.toArray⟩, .int .i64 r.status, .string ⟨r.text.toArray⟩, .int .i64 r.items, .int .u8 (r.flags : Int), .int .u32 (r.uid : Int), .int .u32 (r.size : Int), .slice A' r.body.length c']) ∧ ByAt w'.heap.size w' A' c' r.body ∧ Below w6.heap.size w6 w')))
  have SM6 := Lib.hid (fun W A5 k5 (hW : Below w6.heap.size w6 W) (h5 : ByAt W.heap.size W A5 k5 r.body) => (SM.out W A7 k7 A5 k5 ((HR6.out.below hW).here) h5).mono (fun e w' (h : e = .returned (.bool true) ∧ Below W.heap.size W w') => (⟨h.1, below_next hW h.2⟩ : e = .returned (.bool true) ∧ Below w6.heap.size w6 w')))
  have VD6 := fun W (hW : Below w6.heap.size w6 W) => (VD W A7 k7 ((HR6.out.below hW).here)).mono (fun e w' (h : e = .returned (.bool (decide ((m : Int) > 0))) ∧ Below W.heap.size W w') => (⟨h.1, below_next hW h.2⟩ : e = .returned (.bool (decide ((m : Int) > 0))) ∧ Below w6.heap.size w6 w'))
  clear hx hb6 hx6 RM SM HY5 HX5 VD
  by_cases hm0 : m = 0
  all_goals
    first
      | (obtain rfl := hm0
         have VD6 : ∀ W, Below w6.heap.size w6 W → Calls Tryd.prog 13 #[.agg #[.int .i64 r.kind, .int .u32 (r.n : Int), .string ⟨r.tag.toArray⟩, .int .i64 r.status, .string ⟨r.text.toArray⟩, .int .i64 r.items, .int .u8 (r.flags : Int), .int .u32 (r.uid : Int), .int .u32 (r.size : Int), .slice A7 r.body.length k7]] W (fun e w' => e = .returned (.bool false) ∧ Below w6.heap.size w6 w') := VD6)
      | (have VD6 : ∀ W, Below w6.heap.size w6 W → Calls Tryd.prog 13 #[.agg #[.int .i64 r.kind, .int .u32 (r.n : Int), .string ⟨r.tag.toArray⟩, .int .i64 r.status, .string ⟨r.text.toArray⟩, .int .i64 r.items, .int .u8 (r.flags : Int), .int .u32 (r.uid : Int), .int .u32 (r.size : Int), .slice A7 r.body.length k7]] W (fun e w' => e = .returned (.bool true) ∧ Below w6.heap.size w6 w') := by
           rw [decide_eq_true (show (m : Int) > 0 by omega)] at VD6
           exact VD6
         have hm1 : 0 < m := by omega
         clear hm0)
    have VD6 := Lib.hid VD6
    go_region_held3 (fun w' => w'.cell? ⟨w5.heap.size, 0, none⟩ = some (.int .i64 r.kind) ∧ w'.cell? ⟨w5.heap.size, 1, none⟩ = some (.int .u32 (r.n : Int)) ∧ w'.cell? ⟨w5.heap.size, 2, none⟩ = some (.string ⟨r.tag.toArray⟩) ∧ w'.cell? ⟨w5.heap.size, 3, none⟩ = some (.int .i64 r.status) ∧ w'.cell? ⟨w5.heap.size, 4, none⟩ = some (.string ⟨r.text.toArray⟩) ∧ w'.cell? ⟨w5.heap.size, 5, none⟩ = some (.int .i64 r.items) ∧ w'.cell? ⟨w5.heap.size, 6, none⟩ = some (.int .u8 (r.flags : Int)) ∧ w'.cell? ⟨w5.heap.size, 7, none⟩ = some (.int .u32 (r.uid : Int)) ∧ w'.cell? ⟨w5.heap.size, 8, none⟩ = some (.int .u32 (r.size : Int)) ∧ w'.cell? ⟨w5.heap.size, 9, none⟩ = some (.slice A7 r.body.length k7) ∧ w'.cell? ⟨w.heap.size, 0, none⟩ = some (.int .u32 (uid : Int)) ∧ w'.cell? ⟨w.heap.size, 1, none⟩ = some (.int .u8 (flags : Int)) ∧ w'.cell? ⟨w.heap.size, 2, none⟩ = some (.slice A nl k) ∧ Below w6.heap.size w6 w')
      ((refine HKL.out _ ?_; repeat (first | assumption | exact Below.refl _ _ | refine belDrawN ?_ _ | refine belDraw ?_)))
      (first
        | (go_at_call 24; refine (RM6.out _ (by repeat (first | assumption | exact Below.refl _ _ | refine belDrawN ?_ _ | refine belDraw ?_))).mono ?_; rintro e' w7 ⟨A8, k8', rfl, hy8, hb7⟩)
        | (go_at_call 19; refine (SM6.out _ _ _ (by repeat (first | assumption | exact Below.refl _ _ | refine belDrawN ?_ _ | refine belDraw ?_)) (hy8.below (by repeat (first | assumption | exact Below.refl _ _ | refine belDrawN ?_ _ | refine belDraw ?_))).here).mono ?_; rintro e' w8 ⟨rfl, hb8⟩)
        | (go_at_call 13; refine (VD6.out _ (by repeat (first | assumption | exact Below.refl _ _ | refine belDrawN ?_ _ | refine belDraw ?_))).mono ?_; rintro e' w9 ⟨rfl, hb9⟩))
    all_goals
      have HB69 := Lib.hid hb9
      have HB59 := Lib.hid (below_next HB56.out hb9)
      have HRB9 := Lib.hid (show RsBox w5.heap.size r A7 k7 w9 from (hb9.block w5.heap.size HL5.out).trans HRB.out)
      have HG9 := Lib.hid (row_of9 HO5.out HB59.out)
      have HB49 := Lib.hid (below_next HB45.out HB59.out)
      obtain ⟨-, -, -, -, -, -, -, -, -, x9⟩ := HRB9.out.cells
      clear hy8 hb7 hb8 hb9 HKL RM6 SM6 VD6 HY6 HA6 HR6 HB46 HB6 HRB HO5
      go_wp2_with fail
      go_loopw [55] (fun i wr => ∃ j : Nat, j ≤ r.body.length ∧ i = .int .i64 (j : Int) ∧ Hid (Row9 w4.heap.size w5.heap.size A7 r.body.length wr) ∧ Hid (RsBox w5.heap.size r A7 k7 wr) ∧ Hid (Below w4.heap.size w4 wr)) (fun i _ => r.body.length - (intOf i).toNat)
      case atStart => exact ⟨0, Nat.zero_le _, rfl, HG9, HRB9, HB49⟩
      case round =>
        obtain ⟨j, hj, rfl, HGr, HRr, HBr⟩ := hrel
        clear x9 HRB9 HG9 HB49
        by_cases hlt : j < r.body.length
        · obtain ⟨g, cur, rfl, hg1, hg2, hg3, hg4⟩ := HGr.out (by omega)
          obtain ⟨v, hv⟩ := hg4 j hlt
          obtain ⟨-, -, -, -, -, -, -, -, -, x9⟩ := HRr.out.cells
          have c := (cell_blk9 hg3 j).trans hv
          have f := Joins.unfrozen_of_block hg3 j
          have hk0 : (0 : Int) ≤ (j : Int) := by omega
          have hk1 : (j : Int) < (r.body.length : Int) := by omega
          have STEP := Lib.hid (row_step9 (j := j) (v := IntKind.u8.wrap (v + 1)) hg1 hg2 hg3 hg4 HRr.out HBr.out)
          clear HGr HRr HBr hg3 hg4 hv
          go_wp2_with fail
          go_roundw
          case rel => exact ⟨j + 1, by omega, by go_num, Lib.hid STEP.out.1, Lib.hid STEP.out.2.1, Lib.hid STEP.out.2.2⟩
          case measure => simp [intOf]; omega
        · obtain rfl : j = r.body.length := by omega
          have HBX := Lib.hid (below_next HB4.out HBr.out)
          go_wp2_with fail
          refine (AL.out _ HBX.out).mono ?_
          rintro e wa ⟨rfl, hb⟩
          have HBA := Lib.hid (below_next HBr.out hb)
          obtain ⟨d0, d1, d2⟩ := cells3m ((HBA.out.block w.heap.size (by have := HSZ4.out; omega)).trans HX4.out)
          have EQ := equalB_any _ _ A6 A k6 k nl nl l l HNL.out HNL.out (by omega) (by omega) wa (HY4.out.here.below HBA.out) (HS.out.below (below_next HB4.out HBA.out))
          rw [decide_eq_true (rfl : l = l)] at EQ
          have EQ := Lib.hid EQ
          have HBW := Lib.hid (below_next HB4.out HBA.out)
          clear hb HRr HGr HBr
          go_wp2_with fail
          refine EQ.out.mono ?_
          rintro e wb ⟨rfl, hb⟩
          have HBZ := Lib.hid (below_next HBW.out hb)
          clear hb
          go_wp2_with fail
          go_ret
          exact ⟨rfl, HBZ.out⟩

set_option maxRecDepth 100000 in
set_option maxHeartbeats 4000000 in
theorem respMessages_any (n : Nat) (hn : n ≤ 4294967295) (k8 : Nat) (hk8 : k8 ≤ 255) (uid flags : Nat) (A : Option Addr) (k : Nat) (l : List UInt8) (hu : uid ≤ 4294967295) (hf : flags ≤ 255) (hl : l.length ≤ maxLen) (w : World) (henv : Env w) (hS : ByAt w.heap.size w A k l) :
    Calls Tryd.prog 7 #[.int .u32 (n : Int), .int .u8 (k8 : Int), .agg #[.int .u32 (uid : Int), .int .u8 (flags : Int), .slice A l.length k]] w fun e w' => e = .returned (.bool true) ∧ Below w.heap.size w w' := by
  have AL := Lib.hid (fun W (hW : Below w.heap.size w W) => alive9_any W (henv.below hW))
  have e1 : IntKind.i64.wrap (k8 : Int) = (k8 : Int) := IntWalk.i64_in _ (by omega)
  have e2 : IntKind.i64.wrap (n : Int) = (n : Int) := IntWalk.i64_in _ (by omega)
  obtain ⟨m, hm⟩ : ∃ m, k8 % 32 = m := ⟨_, rfl⟩
  have hm32 : m < 32 := by omega
  have e3 : (k8 : Int).tmod 32 = (m : Int) := by rw [Int.tmod_eq_emod_of_nonneg (by omega)]; omega
  have e4 : (k8 : Int) % 32 = (m : Int) := by omega
  have e5 : IntKind.i64.wrap (m : Int) = (m : Int) := IntWalk.i64_in _ (by omega)
  obtain ⟨nl, hnl⟩ : ∃ nl, l.length = nl := ⟨_, rfl⟩
  have HS := Lib.hid hS
  have hl9 : nl ≤ maxLen := by rw [← hnl]; exact hl
  rw [hnl]
  have hf9 : (flags : Int) ≤ 255 := by omega
  have hl9' : (nl : Int) ≤ 9223372036854775807 := by unfold maxLen at hl9; omega
  clear hm hS hl henv
  by_cases h1 : nl ≤ 500
  · by_cases h2 : flags ≤ 31
    · exact respMessages_few n hn k8 m hm32 e1 e2 e3 e4 e5 uid flags A k l hu nl hnl h1 h2 w AL HS
    have h3 : 31 < flags := by omega
    have h4 : ¬ 500 < nl := by omega
    clear HS hnl hm32 h1 h2
    go_enter Tryd.func7, Tryd.ntmps7
    go_wp2_with fail
    refine (AL.out _ (below_al _ _)).mono ?_
    rintro e w1 ⟨rfl, hb⟩
    have HB1 := Lib.hid (below_next (below_al w (.cells #[.int .u32 (uid : Int), .int .u8 (flags : Int), .slice A nl k] 45)) hb)
    clear hb
    go_wp2_with fail
    go_ret
    exact ⟨rfl, HB1.out⟩
  · have h3 : 500 < nl := by omega
    clear HS hnl hm32 h1
    go_enter Tryd.func7, Tryd.ntmps7
    go_wp2_with fail
    refine (AL.out _ (below_al _ _)).mono ?_
    rintro e w1 ⟨rfl, hb⟩
    have HB1 := Lib.hid (below_next (below_al w (.cells #[.int .u32 (uid : Int), .int .u8 (flags : Int), .slice A nl k] 45)) hb)
    clear hb
    go_wp2_with fail
    go_ret
    exact ⟨rfl, HB1.out⟩
end Go.Proofs.YtcpbgceplgcblaaDoor
