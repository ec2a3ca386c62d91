/- reply: the items of a message. -/
import Derived.Test.YtpoejnajnaolpaaGreatDoorRpRe
import Derived.Deep.Quiet
namespace Go.Proofs.YtpoejnajnaolpaaGreatDoor
open Go.RowKit

/-- What reads an item. -/
def rdF (k : Nat) : FuncId := if k = 0 then 106 else if k = 1 then 107 else if k = 2 then 108 else 109
set_option maxRecDepth 100000 in
theorem enters_rdF (k : Nat) (args : Array Value) (w : World) : (callFunc (rdF k) args).run Tryz.prog w = .ok (.enter (rdF k) args) w := by
  unfold rdF
  split
  · kernel_rfl
  · split
    · kernel_rfl
    · split <;> kernel_rfl
theorem rdF_any (k : Nat) (hk : k < 4) (bb bp c kb : Nat) (A Ab : Option Addr) (l : List UInt8) (r : RI) (hl : l.length ≤ 1000000) (w : World) (henv : ∀ W, Rk bb bp w W → Env W) (h : Rp bb bp A c l r Ab kb false w) :
    Calls Tryz.prog (rdF k) #[.pointer (some ⟨bp, 0, none⟩)] w fun e w' => RdP bb bp (readK k l r) e w' ∧ Rk bb bp w w' := by
  have hc : k = 0 ∨ k = 1 ∨ k = 2 ∨ k = 3 := by omega
  rcases hc with rfl | rfl | rfl | rfl
  · exact flags_st bb bp c kb A Ab l r hl w h
  · exact uid_st bb bp c kb A Ab l r hl w henv h
  · exact size_st bb bp c kb A Ab l r hl w henv h
  · exact body_st bb bp c kb A Ab l r hl w henv h
def itV (bp : Nat) (k : Nat) : Value := .agg #[.int .i64 (itB k), .string ⟨(itN k).toArray⟩, .func (Fn.func (rdF k)) #[.pointer (some ⟨bp, 0, none⟩)] #[]]
def itA (bp : Nat) : Value := .agg #[.int .i64 1, .string ⟨#[70, 76, 65, 71, 83, 32]⟩, .func (Fn.func 106) #[.pointer (some ⟨bp, 0, none⟩)] #[], .int .i64 2, .string ⟨#[85, 73, 68, 32]⟩, .func (Fn.func 107) #[.pointer (some ⟨bp, 0, none⟩)] #[], .int .i64 4, .string ⟨#[82, 70, 67, 56, 50, 50, 46, 83, 73, 90, 69, 32]⟩, .func (Fn.func 108) #[.pointer (some ⟨bp, 0, none⟩)] #[], .int .i64 16, .string ⟨#[66, 79, 68, 89, 91, 93, 32]⟩, .func (Fn.func 109) #[.pointer (some ⟨bp, 0, none⟩)] #[]]
theorem it_ix0 (bp : Nat) (w : World) : (Instr.index 121 (itA bp) (.int .i64 0)).run Tryz.prog w = .ok (itV bp 0) w := by kernel_rfl
theorem it_ix1 (bp : Nat) (w : World) : (Instr.index 121 (itA bp) (.int .i64 1)).run Tryz.prog w = .ok (itV bp 1) w := by kernel_rfl
theorem it_ix2 (bp : Nat) (w : World) : (Instr.index 121 (itA bp) (.int .i64 2)).run Tryz.prog w = .ok (itV bp 2) w := by kernel_rfl
theorem it_ix3 (bp : Nat) (w : World) : (Instr.index 121 (itA bp) (.int .i64 3)).run Tryz.prog w = .ok (itV bp 3) w := by kernel_rfl
theorem it_ix (bp k : Nat) (hk : k < 4) (w : World) : (Instr.index 121 (itA bp) (.int .i64 (k : Int))).run Tryz.prog w = .ok (itV bp k) w := by
  have hc : k = 0 ∨ k = 1 ∨ k = 2 ∨ k = 3 := by omega
  rcases hc with rfl | rfl | rfl | rfl
  · exact it_ix0 bp w
  · exact it_ix1 bp w
  · exact it_ix2 bp w
  · exact it_ix3 bp w
theorem read_len {k : Nat} {l l' : List UInt8} {r r' : RI} (h : readK k l r = some (l', r')) : l'.length ≤ l.length := by
  have dr : ∀ n, (l.drop n).length ≤ l.length := fun n => by rw [List.length_drop]; omega
  match k, h with
  | 0, h =>
    simp only [readK, flgK] at h
    split at h
    · split at h
      · obtain ⟨rfl, rfl⟩ := Prod.mk.inj (Option.some.inj h)
        rw [List.drop_drop]
        exact dr _
      · cases h
    · cases h
  | 1, h =>
    simp only [readK, Option.map_eq_some_iff] at h
    obtain ⟨u, _, e⟩ := h
    obtain ⟨rfl, rfl⟩ := Prod.mk.inj e
    exact dr _
  | 2, h =>
    simp only [readK, Option.map_eq_some_iff] at h
    obtain ⟨u, _, e⟩ := h
    obtain ⟨rfl, rfl⟩ := Prod.mk.inj e
    exact dr _
  | k + 3, h =>
    simp only [readK, Option.map_eq_some_iff] at h
    obtain ⟨u, _, e⟩ := h
    obtain ⟨rfl, rfl⟩ := Prod.mk.inj e
    exact dr _
theorem read_items {k : Nat} {l l' : List UInt8} {r r' : RI} (h : readK k l r = some (l', r')) : r'.items = r.items := by
  match k, h with
  | 0, h =>
    simp only [readK, flgK] at h
    split at h
    · split at h
      · obtain ⟨rfl, rfl⟩ := Prod.mk.inj (Option.some.inj h)
        rfl
      · cases h
    · cases h
  | 1, h =>
    simp only [readK, Option.map_eq_some_iff] at h
    obtain ⟨u, _, e⟩ := h
    obtain ⟨rfl, rfl⟩ := Prod.mk.inj e
    rfl
  | 2, h =>
    simp only [readK, Option.map_eq_some_iff] at h
    obtain ⟨u, _, e⟩ := h
    obtain ⟨rfl, rfl⟩ := Prod.mk.inj e
    rfl
  | k + 3, h =>
    simp only [readK, Option.map_eq_some_iff] at h
    obtain ⟨u, _, e⟩ := h
    obtain ⟨rfl, rfl⟩ := Prod.mk.inj e
    rfl
theorem itR_step (k : Nat) (hk : k < 4) (l : List UInt8) (r : RI) : itR (4 - k) l r = (itemK k l r).bind fun p => itR (4 - (k + 1)) p.1 p.2 := by
  obtain ⟨m, hm⟩ : ∃ m, 4 - k = m + 1 := ⟨3 - k, by omega⟩
  rw [hm, show 4 - (k + 1) = m by omega, itR, show 3 - m = k by omega]

/-- The round of an item, behind its name. -/
structure ItR (k : Nat) (l : List UInt8) (r : RI) (R : Option (List UInt8 × RI)) (l2 : List UInt8) (yes : Bool) : Prop where
  no : yes = false → itR (4 - (k + 1)) l r = R
  bad : yes = true → readK k l2 r = none → R = none
  good : yes = true → ∀ l3 r3, readK k l2 r = some (l3, r3) → itR (4 - (k + 1)) l3 { r3 with items := bits BinOp.or IntKind.i64 r3.items (itB k) } = R
theorem itR_of {k : Nat} (hk : k < 4) {l : List UInt8} {r : RI} {R : Option (List UInt8 × RI)} (h : itR (4 - k) l r = R) : ItR k l r R (cutW (nmK k r) l) ((nmK k r).isPrefixOf l) := by
  rw [itR_step k hk] at h
  refine ⟨fun e => ?_, fun e n => ?_, fun e l3 r3 n => ?_⟩
  · unfold itemK at h
    rw [if_neg (by rw [e]; decide)] at h
    exact h
  · rw [cutW_t e] at n
    unfold itemK at h
    rw [if_pos e, n] at h
    exact h.symm
  · rw [cutW_t e] at n
    unfold itemK at h
    rw [if_pos e, n] at h
    rw [read_items n]
    exact h

set_option maxRecDepth 100000 in
set_option maxHeartbeats 8000000 in
theorem items_st (bb bp c kb : Nat) (A Ab : Option Addr) (l : List UInt8) (r : RI) (hl : l.length ≤ 1000000) (w : World) (henv : ∀ W, Rk bb bp w W → Env W) (h : Rp bb bp A c l r Ab kb false w) :
    Calls Tryz.prog 83 #[.pointer (some ⟨bp, 0, none⟩)] w fun e w' => SPo bb bp (nextP .items l r) e w' ∧ Rk bb bp w w' := by
  have hmf : ∀ (fn : Fn) (first cap : Array Value) (w : World), (Instr.makeFunc fn first cap).run Tryz.prog w = .ok (.func fn first cap) w := fun _ _ _ _ => rfl
  have HNX : Hid (∀ R, itR 4 l r = R → nextP .items l r = R.bind fun p => if p.2.items ≠ 0 ∧ [41].isPrefixOf p.1 = true then some (.fin, p.1.drop 1, p.2) else none) := Lib.hid (fun R h => by rw [← h]; rfl)
  obtain ⟨R, hR⟩ : ∃ R, itR 4 l r = R := ⟨_, rfl⟩
  have HNX := Lib.hid (HNX.out R hR)
  generalize nextP .items l r = nx at *
  have HI := Lib.hid (show itR (4 - 0) l r = R from hR)
  have HR0 := Lib.hid h
  have HE := Lib.hid henv
  clear hR h henv
  go_enter Tryz.func83, Tryz.ntmps83
  go_wp2_with fail
  go_loopw [18] (fun i wr => ∃ (k : Nat) (A' : Option Addr) (c' : Nat) (Ab' : Option Addr) (kb' : Nat) (l' : List UInt8) (r' : RI), k ≤ 4 ∧ i = .int .i64 (k : Int) ∧ Hid (l'.length ≤ 1000000) ∧ Hid (itR (4 - k) l' r' = R) ∧ Hid (Rp bb bp A' c' l' r' Ab' kb' false wr) ∧ Hid (Rk bb bp w wr)) (fun i _ => 4 - (intOf i).toNat)
  case atStart => exact ⟨0, A, c, Ab, kb, l, r, Nat.zero_le _, rfl, Lib.hid hl, HI, HR0, Lib.hid (Rk.refl _ _ _)⟩
  case round =>
  obtain ⟨k, A', c', Ab', kb', l', r', hk, rfl, hL, hI, hR, hK⟩ := hrel
  clear HI HR0
  by_cases hlt : k < 4
  · have hk0 : (0 : Int) ≤ (k : Int) := by omega
    have hk1 : (k : Int) < 4 := by omega
    have hix := it_ix bp k hlt wr
    unfold itA itV at hix
    have IT := Lib.hid (itR_of hlt hI.out)
    have c6 : wr.cell? ⟨bp, 6, none⟩ = some (.int .i64 r'.items) := cell_of_row _ _ 6 _ _ _ hR.out.blk
    have hz1 := hR.out.here.1
    have hz2 := hR.out.here.2
    have hne1 : wr.heap.size ≠ bp := by omega
    have hne2 : wr.heap.size ≠ bb := by omega
    have HB := Lib.hid (fun o => below_al wr o)
    have HNM := Lib.hid (show (r'.items = 0 → nmK k r' = itN k) ∧ (r'.items ≠ 0 → nmK k r' = 32 :: itN k) from ⟨fun e => if_pos e, fun e => if_neg e⟩)
    have PS := Lib.hid (fun W s (hw : Rp bb bp A' c' l' r' Ab' kb' false W) => pass_any bb bp c' kb' A' Ab' l' s r' false W hw)
    have RD := Lib.hid (fun W A2 c2 l2 (hw : Rp bb bp A2 c2 l2 r' Ab' kb' false W) (h2 : l2.length ≤ 1000000) (hk : Rk bb bp w W) => rdF_any k hlt bb bp c2 kb' A2 Ab' l2 r' h2 W (fun V hV => HE.out V (hk.trans hV)) hw)
    have HCL := Lib.hid (show (cutW (nmK k r') l').length ≤ 1000000 from by
      unfold cutW
      split
      · rw [List.length_drop]; have := hL.out; omega
      · exact hL.out)
    have HEN := fun args W => enters_rdF k args W
    have HRL := Lib.hid (fun l3 r3 (h : readK k (cutW (nmK k r') l') r' = some (l3, r3)) => Nat.le_trans (read_len h) HCL.out)
    have hsN : (ByteArray.mk (itN k).toArray).size ≤ 1000 := by
      unfold itN
      split <;> decide
    have hnl : (itN k).length ≤ 1000 := by simpa [ByteArray.size] using hsN
    have hct : ByteArray.mk #[32] ++ ByteArray.mk (itN k).toArray = ByteArray.mk (32 :: itN k).toArray := by
      apply ByteArray.ext
      simp
    by_cases hi0 : r'.items = 0
    · have hb0 : (r'.items != 0) = false := by simp [hi0]
      have HBX := Lib.hid (HB.out (.cells #[.int .i64 (itB k), .string ⟨(itN k).toArray⟩, .func (Fn.func (rdF k)) #[.pointer (some ⟨bp, 0, none⟩)] #[]] 120))
      have XB := Lib.hid (heap_alloc_new wr (.cells #[.int .i64 (itB k), .string ⟨(itN k).toArray⟩, .func (Fn.func (rdF k)) #[.pointer (some ⟨bp, 0, none⟩)] #[]] 120))
      have PW := Lib.hid (PS.out (wr.alloc (.cells #[.int .i64 (itB k), .string ⟨(itN k).toArray⟩, .func (Fn.func (rdF k)) #[.pointer (some ⟨bp, 0, none⟩)] #[]] 120)) (itN k) (hR.out.grow HBX.out))
      rw [HNM.out.1 hi0] at IT HCL HRL
      have HCW := Lib.hid (show (itN k).isPrefixOf l' = false → cutW (itN k) l' = l' from cutW_f)
      clear HNM PS HB hi0
      generalize cutW (itN k) l' = l2 at *
      generalize (itN k).isPrefixOf l' = q at *
      generalize hib : itB k = ib at *
      generalize rdF k = F at *
      go_wp2_with fail
      refine PW.out.mono ?_
      rintro e w2 ⟨rfl, ⟨A2, c2, h2⟩, k2⟩
      have hx := k2.at_ XB.out hne2 hne1
      have x2 : w2.cell? ⟨wr.heap.size, 2, none⟩ = some (.func (Fn.func F) #[.pointer (some ⟨bp, 0, none⟩)] #[]) := cell_of_row _ _ 2 _ _ _ hx
      have K2 := Lib.hid ((hK.out.trans (Rk.of_below HBX.out)).trans k2)
      have HX := Lib.hid hx
      clear k2 PW XB HBX hx c6 hix hct
      cases q with
      | false =>
        have HN := Lib.hid (IT.out.no rfl)
        obtain rfl := HCW.out rfl
        clear IT HCL HRL HCW RD x2 HX
        go_wp2_with fail
        go_roundw
        case rel => exact ⟨k + 1, A2, c2, Ab', kb', _, r', by omega, by go_num, hL, HN, h2, K2⟩
        case measure => simp [intOf]; omega
      | true =>
        have RX := Lib.hid (RD.out w2 _ _ l2 h2.out HCL.out K2.out)
        have HBAD := Lib.hid (IT.out.bad rfl)
        have HGOOD := Lib.hid (IT.out.good rfl)
        clear RD HCW IT
        go_wp2_with fail
        refine RX.out.mono ?_
        rintro e w3 ⟨hp, k3⟩
        have K3 := Lib.hid (K2.out.trans k3)
        unfold RdP at hp
        rcases hp with ⟨l3, r3, ho, rfl, A3, c3, Ab3, kb3, h3⟩ | ⟨ho, rfl, A3, c3, l3, r3, Ab3, kb3, h3⟩
        · have HN := Lib.hid (show itR (4 - (k + 1)) l3 { r3 with items := bits BinOp.or IntKind.i64 r3.items ib } = R by rw [← hib]; exact HGOOD.out l3 r3 ho)
          have HL3 := Lib.hid (HRL.out l3 r3 ho)
          have hx3 := k3.at_ HX.out hne2 hne1
          have x0 : w3.cell? ⟨wr.heap.size, 0, none⟩ = some (.int .i64 ib) := cell_of_row _ _ 0 _ _ _ hx3
          have y6 : w3.cell? ⟨bp, 6, none⟩ = some (.int .i64 r3.items) := cell_of_row _ _ 6 _ _ _ h3.out.blk
          have f6 := Joins.unfrozen_of_block h3.out.blk 6
          have HP := Lib.hid ((h3.out.put (i := 6) (v := .int .i64 (bits BinOp.or IntKind.i64 r3.items ib)) (r' := { r3 with items := bits BinOp.or IntKind.i64 r3.items ib }) (Ab' := Ab3) (kb' := kb3) (wh' := false) (by rw [Joins.block_setCell h3.out.blk]; rfl) h3.out.body).grow (Below.refl _ _).drew)
          have KP := Lib.hid ((K3.out.trans (Rk.of_bp (bb := bb) (grown_setCell w3 bp 6 (.int .i64 (bits BinOp.or IntKind.i64 r3.items ib))))).trans (Rk.of_below (Below.refl _ _).drew))
          clear hx3 k3 RX ho HBAD HGOOD HRL HX x2 HCL
          go_wp2_with fail
          go_region
          go_wp2_with fail
          go_roundw
          case rel => exact ⟨k + 1, A3, c3, Ab3, kb3, l3, _, by omega, by go_num, HL3, HN, HP, KP⟩
          case measure => simp [intOf]; omega
        · have HN := Lib.hid (HBAD.out ho)
          have HN2 := Lib.hid (show nx = none by rw [HNX.out, HN.out]; rfl)
          clear k3 RX ho HBAD HGOOD HRL HX x2 HN
          go_wp2_with fail
          go_ret
          exact ⟨.inr ⟨HN2.out, rfl, _, _, _, _, _, _, h3⟩, K3.out⟩
    · have hb0 : (r'.items != 0) = true := by simp [hi0]
      have HBX := Lib.hid (HB.out (.cells #[.int .i64 (itB k), .string ⟨(32 :: itN k).toArray⟩, .func (Fn.func (rdF k)) #[.pointer (some ⟨bp, 0, none⟩)] #[]] 120))
      have XB := Lib.hid (heap_alloc_new wr (.cells #[.int .i64 (itB k), .string ⟨(32 :: itN k).toArray⟩, .func (Fn.func (rdF k)) #[.pointer (some ⟨bp, 0, none⟩)] #[]] 120))
      have PW := Lib.hid (PS.out (wr.alloc (.cells #[.int .i64 (itB k), .string ⟨(32 :: itN k).toArray⟩, .func (Fn.func (rdF k)) #[.pointer (some ⟨bp, 0, none⟩)] #[]] 120)) (32 :: itN k) (hR.out.grow HBX.out))
      rw [HNM.out.2 hi0] at IT HCL HRL
      have HCW := Lib.hid (show (32 :: itN k).isPrefixOf l' = false → cutW (32 :: itN k) l' = l' from cutW_f)
      clear HNM PS HB hi0
      generalize cutW (32 :: itN k) l' = l2 at *
      generalize (32 :: itN k).isPrefixOf l' = q at *
      generalize hib : itB k = ib at *
      generalize rdF k = F at *
      go_wp2_with fail
      refine PW.out.mono ?_
      rintro e w2 ⟨rfl, ⟨A2, c2, h2⟩, k2⟩
      have hx := k2.at_ XB.out hne2 hne1
      have x2 : w2.cell? ⟨wr.heap.size, 2, none⟩ = some (.func (Fn.func F) #[.pointer (some ⟨bp, 0, none⟩)] #[]) := cell_of_row _ _ 2 _ _ _ hx
      have K2 := Lib.hid ((hK.out.trans (Rk.of_below HBX.out)).trans k2)
      have HX := Lib.hid hx
      clear k2 PW XB HBX hx c6 hix hct
      cases q with
      | false =>
        have HN := Lib.hid (IT.out.no rfl)
        obtain rfl := HCW.out rfl
        clear IT HCL HRL HCW RD x2 HX
        go_wp2_with fail
        go_roundw
        case rel => exact ⟨k + 1, A2, c2, Ab', kb', _, r', by omega, by go_num, hL, HN, h2, K2⟩
        case measure => simp [intOf]; omega
      | true =>
        have RX := Lib.hid (RD.out w2 _ _ l2 h2.out HCL.out K2.out)
        have HBAD := Lib.hid (IT.out.bad rfl)
        have HGOOD := Lib.hid (IT.out.good rfl)
        clear RD HCW IT
        go_wp2_with fail
        refine RX.out.mono ?_
        rintro e w3 ⟨hp, k3⟩
        have K3 := Lib.hid (K2.out.trans k3)
        unfold RdP at hp
        rcases hp with ⟨l3, r3, ho, rfl, A3, c3, Ab3, kb3, h3⟩ | ⟨ho, rfl, A3, c3, l3, r3, Ab3, kb3, h3⟩
        · have HN := Lib.hid (show itR (4 - (k + 1)) l3 { r3 with items := bits BinOp.or IntKind.i64 r3.items ib } = R by rw [← hib]; exact HGOOD.out l3 r3 ho)
          have HL3 := Lib.hid (HRL.out l3 r3 ho)
          have hx3 := k3.at_ HX.out hne2 hne1
          have x0 : w3.cell? ⟨wr.heap.size, 0, none⟩ = some (.int .i64 ib) := cell_of_row _ _ 0 _ _ _ hx3
          have y6 : w3.cell? ⟨bp, 6, none⟩ = some (.int .i64 r3.items) := cell_of_row _ _ 6 _ _ _ h3.out.blk
          have f6 := Joins.unfrozen_of_block h3.out.blk 6
          have HP := Lib.hid ((h3.out.put (i := 6) (v := .int .i64 (bits BinOp.or IntKind.i64 r3.items ib)) (r' := { r3 with items := bits BinOp.or IntKind.i64 r3.items ib }) (Ab' := Ab3) (kb' := kb3) (wh' := false) (by rw [Joins.block_setCell h3.out.blk]; rfl) h3.out.body).grow (Below.refl _ _).drew)
          have KP := Lib.hid ((K3.out.trans (Rk.of_bp (bb := bb) (grown_setCell w3 bp 6 (.int .i64 (bits BinOp.or IntKind.i64 r3.items ib))))).trans (Rk.of_below (Below.refl _ _).drew))
          clear hx3 k3 RX ho HBAD HGOOD HRL HX x2 HCL
          go_wp2_with fail
          go_region
          go_wp2_with fail
          go_roundw
          case rel => exact ⟨k + 1, A3, c3, Ab3, kb3, l3, _, by omega, by go_num, HL3, HN, HP, KP⟩
          case measure => simp [intOf]; omega
        · have HN := Lib.hid (HBAD.out ho)
          have HN2 := Lib.hid (show nx = none by rw [HNX.out, HN.out]; rfl)
          clear k3 RX ho HBAD HGOOD HRL HX x2 HN
          go_wp2_with fail
          go_ret
          exact ⟨.inr ⟨HN2.out, rfl, _, _, _, _, _, _, h3⟩, K3.out⟩
  · obtain rfl : k = 4 := by omega
    have HRR := Lib.hid (show some (l', r') = R from hI.out)
    have HX := Lib.hid (show nx = if r'.items ≠ 0 ∧ [41].isPrefixOf l' = true then some (.fin, l'.drop 1, r') else none by rw [HNX.out, ← HRR.out]; rfl)
    have c6 : wr.cell? ⟨bp, 6, none⟩ = some (.int .i64 r'.items) := cell_of_row _ _ 6 _ _ _ hR.out.blk
    have PS := Lib.hid (pass_any bb bp c' kb' A' Ab' l' [41] r' false wr hR.out)
    have hx4 : decide (((4 : Nat) : Int) < 4) = false := by decide
    clear HNX HRR hI
    by_cases hi0 : r'.items = 0
    · have hb0 : (r'.items == 0) = true := by simp [hi0]
      have HN := Lib.hid (HX.out.trans (if_neg (fun h => h.1 hi0)))
      clear HX PS hi0
      go_wp2_with fail
      go_ret
      exact ⟨.inr ⟨HN.out, rfl, _, _, _, _, _, _, hR⟩, hK.out⟩
    · have hb0 : (r'.items == 0) = false := by simp [hi0]
      have HX := Lib.hid (fun (e : [41].isPrefixOf l' = true) => HX.out.trans (if_pos ⟨hi0, e⟩))
      have HX2 := Lib.hid (fun (e : [41].isPrefixOf l' = false) => show nx = none by
        rw [‹Hid (nx = _)›.out]
        exact if_neg (fun h => by rw [e] at h; cases h.2))
      clear hi0
      go_wp2_with fail
      refine PS.out.mono ?_
      rintro e w2 ⟨rfl, ⟨A2, c2, h2⟩, k2⟩
      have K2 := Lib.hid (hK.out.trans k2)
      cases q : [41].isPrefixOf l' with
      | true =>
        have HN := Lib.hid (HX.out q)
        rw [cutW_t q] at h2
        clear k2 PS q HX2 HX
        go_wp2_with fail
        go_ret
        exact ⟨.inl ⟨_, _, _, HN.out, rfl, _, _, _, _, h2⟩, K2.out⟩
      | false =>
        have HN := Lib.hid (HX2.out q)
        clear k2 PS q HX2 HX
        go_wp2_with fail
        go_ret
        exact ⟨.inr ⟨HN.out, rfl, _, _, _, _, _, _, h2⟩, K2.out⟩
end Go.Proofs.YtpoejnajnaolpaaGreatDoor
