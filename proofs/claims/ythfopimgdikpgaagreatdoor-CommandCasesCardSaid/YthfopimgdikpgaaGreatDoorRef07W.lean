/- The reference of layer 7: words, list, mode. -/
import Derived.Test.YthfopimgdikpgaaGreatDoorRef07B
namespace Go.Proofs.YthfopimgdikpgaaGreatDoor
open Go.RowKit

/-- The loop of 'words', in plain words. -/
def goW (f : List UInt8 → Nat) : Bool → Nat → List Tok → Option Nat
  | odd, sum, [] => if odd then some sum else none
  | true, sum, t :: r => if t.kind = 1 then goW f false sum r else none
  | false, sum, t :: r => if t.kind = 4 ∧ f t.text ≠ 0 then goW f true (sum ||| f t.text) r else none
def foldW (f : List UInt8 → Nat) (sum : Nat) (ns : List (List UInt8)) : Option Nat := if (ns.all fun p => f p != 0) = true then some (ns.foldl (fun a p => a ||| f p) sum) else none
theorem goW_is (f : List UInt8 → Nat) : ∀ (ts : List Tok) (sum : Nat), goW f false sum ts = (wnames ts).bind (foldW f sum) := by
  suffices h : ∀ (n : Nat) (ts : List Tok), ts.length ≤ n → ∀ sum, goW f false sum ts = (wnames ts).bind (foldW f sum) from fun ts => h ts.length ts (Nat.le_refl _)
  intro n
  induction n with
  | zero =>
    intro ts hp sum
    obtain rfl : ts = [] := List.length_eq_zero_iff.1 (by omega)
    simp [goW, wnames]
  | succ n ih =>
    intro ts hp sum
    rcases ts with _ | ⟨t, _ | ⟨s, r⟩⟩
    · simp [goW, wnames]
    · by_cases h4 : t.kind = 4 <;> by_cases h0 : f t.text = 0 <;> simp [goW, wnames, foldW, h4, h0]
    · have hi := ih r (by simp at hp; omega) (sum ||| f t.text)
      by_cases h4 : t.kind = 4
      · by_cases h1 : s.kind = 1
        · by_cases h0 : f t.text = 0
          · have : ∀ ns : List (List UInt8), foldW f sum (t.text :: ns) = none := fun ns => by simp [foldW, h0]
            cases hw : wnames r <;> simp [goW, wnames, h4, h1, h0, hw, this]
          · have : ∀ ns : List (List UInt8), foldW f sum (t.text :: ns) = foldW f (sum ||| f t.text) ns := fun ns => by simp [foldW, h0]
            simp only [goW, wnames, h4, h1, h0, ne_eq, not_false_eq_true, and_self, if_true, hi]
            cases hw : wnames r <;> simp [this]
        · by_cases h0 : f t.text = 0 <;> simp [goW, wnames, h4, h1, h0]
      · simp [goW, wnames, h4]
/-- What words denote, and what lists denote. -/
def valF7 (items : Bool) : List UInt8 → Nat := if items = true then itemL else flagL
def wsR (items : Bool) (ts : List Tok) : Option Nat := (wnames ts).bind (if items = true then itemsO else namesO)
def lsR (items : Bool) (ts : List Tok) : Option Nat := (lnames ts).bind (if items = true then itemsO else flagsO)
theorem wsR_go (items : Bool) (ts : List Tok) : wsR items ts = goW (valF7 items) false 0 ts := by
  rw [goW_is]
  unfold wsR
  cases hw : wnames ts with
  | none => rfl
  | some ns =>
    have hne := wnames_ne hw
    cases items with
    | true => simp [valF7, itemsO, foldW, orI, hne]
    | false => simp [valF7, namesO, foldW, orF, allF]
theorem valF7_lt (items : Bool) (x : List UInt8) : valF7 items x < 32 := by
  unfold valF7
  split
  · exact itemU_lt _
  · exact flagL_lt x

/-- What 'words' and 'list' answer. -/
def SumPost (o : Option Nat) (w : World) (e : Ending) (w' : World) : Prop :=
  ∃ (s : Nat) (b : Bool), e = .returned (.tuple #[.int .i64 (s : Int), .bool b]) ∧ s < 32 ∧ Hid (o = if b = true then some s else none) ∧ Below w.heap.size w w'

set_option maxRecDepth 100000 in
set_option maxHeartbeats 4000000 in
theorem rwords_any (items : Bool) (A : Option Addr) (c : Nat) (ts : List Tok) (hl : ts.length ≤ 10000) (htx : ∀ t ∈ ts, t.kind ≤ 6 ∧ t.text.length ≤ 1000000) (w : World) (hS : SlAt encT 3 w A ts) :
    Calls Tryz.prog 52 #[.slice A ts.length c, .bool items] w (SumPost (wsR items ts) w) := by
  rw [wsR_go]
  have HS := Lib.hid hS
  have HK := Lib.hid htx
  have FL := Lib.hid (fun (x : List UInt8) (hx : x.length ≤ 1000000) W => refFlag7_any ⟨x.toArray⟩ (by show x.toArray.size ≤ _; simp; omega) W)
  have IT := Lib.hid (fun (x : List UInt8) (hx : x.length ≤ 1000000) W => refItem_any ⟨x.toArray⟩ (by show x.toArray.size ≤ _; simp; omega) W)
  obtain ⟨n, hn⟩ : ∃ n, ts.length = n := ⟨_, rfl⟩
  have HN := Lib.hid hn
  rw [hn] at hl ⊢
  obtain ⟨O, hO⟩ : ∃ O, goW (valF7 items) false 0 ts = O := ⟨_, rfl⟩
  rw [hO]
  have HO := Lib.hid hO
  have HVL := Lib.hid (valF7_lt items)
  have HVI : Hid (∀ x, valF7 items x = if items = true then itemL x else flagL x) := Lib.hid (fun x => by unfold valF7; split <;> rfl)
  clear hS htx hn hO
  go_enter Tryz.func52, Tryz.ntmps52
  go_wp2_with fail
  go_loopw [6, 7] (fun s i wr => ∃ k sum : Nat, k ≤ n ∧ sum < 32 ∧ i = .int .i64 (k : Int) ∧ s = .int .i64 (sum : Int) ∧ Hid (O = goW (valF7 items) (decide (k % 2 = 1)) sum (ts.drop k)) ∧ Hid (Below w.heap.size w wr)) (fun _ i _ => n - (intOf i).toNat)
  case atStart => exact ⟨0, 0, Nat.zero_le _, by omega, rfl, rfl, Lib.hid (by rw [← HO.out]; rfl), Lib.hid (Below.refl _ _)⟩
  case round =>
    obtain ⟨k, sum, hk, hs32, rfl, rfl, hG, hB⟩ := hrel
    by_cases hlt : k < n
    · have hkl : k < ts.length := by rw [HN.out]; exact hlt
      obtain ⟨b, off, rfl, hbw, hc0, hc1, _⟩ := tk_at (HS.out.below hB.out) hkl
      have hkt := HK.out _ (List.getElem_mem hkl)
      have hdr : ts.drop k = ts[k] :: ts.drop (k + 1) := List.drop_eq_getElem_cons hkl
      have HD := Lib.hid hdr
      have HV := Lib.hid (HVI.out ts[k].text)
      have HVB := Lib.hid (HVL.out ts[k].text)
      have F1 := FL.out ts[k].text hkt.2
      have I1 := IT.out ts[k].text hkt.2
      have F1 : ∀ W, Calls Tryz.prog 72 #[.string ⟨ts[k].text.toArray⟩] W fun e w' => e = .returned (.int .i64 (flagL ts[k].text : Nat)) ∧ Below W.heap.size W w' := F1
      have I1 : ∀ W, Calls Tryz.prog 22 #[.string ⟨ts[k].text.toArray⟩] W fun e w' => e = .returned (.int .i64 (itemL ts[k].text : Nat)) ∧ Below W.heap.size W w' := I1
      have F1 := Lib.hid F1
      have I1 := Lib.hid I1
      have hk6 := hkt.1
      clear hkt hdr
      generalize ts[k] = t at *
      by_cases hodd : k % 2 = 1
      · have e1 : ((k : Int) % 2 == 1) = true := by simp; omega
        have e2 : (Int.tmod (k : Int) 2 == 1) = true := by rw [Int.tmod_eq_emod_of_nonneg (by omega)]; simp; omega
        by_cases h1 : t.kind = 1
        · have f1 : ((t.kind : Int) != 1) = false := by rw [h1]; rfl
          have f2 : (t.kind : Int) = 1 := by omega
          have HG2 : Hid (O = goW (valF7 items) (decide ((k + 1) % 2 = 1)) sum (ts.drop (k + 1))) := Lib.hid (by
            rw [hG.out, HD.out, decide_eq_true hodd, show decide ((k + 1) % 2 = 1) = false by simp; omega]
            simp [goW, h1])
          clear hG h1 HD f2
          go_wp2_with fail
          go_roundw
          case rel => exact ⟨k + 1, sum, by omega, hs32, by go_num, rfl, HG2, hB⟩
          case measure => simp [intOf]; omega
        · have f2 : ¬ (t.kind : Int) = 1 := by omega
          have f1 : ((t.kind : Int) != 1) = true := by simpa using f2
          have HG2 : Hid (O = none) := Lib.hid (by
            rw [hG.out, HD.out, decide_eq_true hodd]
            simp [goW, h1])
          clear hG h1 HD
          go_wp2_with fail
          refine bodyPost_ret (v := .tuple #[.int .i64 0, .bool false]) (by simp [results, Tryz.results52, go_sem]) rfl ⟨0, false, rfl, by omega, Lib.hid HG2.out, hB.out⟩
      · have e1 : ((k : Int) % 2 == 1) = false := by simp; omega
        have e2 : (Int.tmod (k : Int) 2 == 1) = false := by rw [Int.tmod_eq_emod_of_nonneg (by omega)]; simp; omega
        by_cases h4 : t.kind = 4
        · have f1 : ((t.kind : Int) == 4) = true := by rw [h4]; rfl
          have HG1 : Hid (O = if valF7 items t.text ≠ 0 then goW (valF7 items) (decide ((k + 1) % 2 = 1)) (sum ||| valF7 items t.text) (ts.drop (k + 1)) else none) := Lib.hid (by
            rw [hG.out, HD.out, show decide (k % 2 = 1) = false by simpa using hodd, show decide ((k + 1) % 2 = 1) = true by simp; omega]
            simp [goW, h4])
          clear hG HD h4
          cases items with
          | true =>
            have hv : valF7 true t.text = itemL t.text := by rw [HV.out]; rfl
            rw [hv] at HG1 HVB
            generalize itemL t.text = it at *
            clear hv
            have hi32 := HVB.out
            have hor : sum ||| it < 32 := Nat.or_lt_two_pow (n := 5) hs32 hi32
            have hor2 : bits BinOp.or IntKind.i64 (sum : Int) (it : Int) = ((sum ||| it : Nat) : Int) := i64_or_nat _ _ (by omega) (by omega)
            by_cases h0 : it = 0
            · have g1 : ((it : Int) == 0) = true := by rw [h0]; rfl
              have HG2 : Hid (O = none) := Lib.hid (by rw [HG1.out, if_neg (by simpa using h0)])
              clear hor hor2 HG1
              go_wp2_with fail
              refine (F1.out _).mono ?_
              rintro e w2 ⟨rfl, hb2⟩
              have hx1 := (hb2.cell (p := ⟨b, off + k * 3 + 1, none⟩) hbw).trans hc1
              go_wp2_with fail
              refine (I1.out _).mono ?_
              rintro e w3 ⟨rfl, hb3⟩
              have HB3 := Lib.hid (below_next (below_next hB.out hb2) hb3)
              clear hb2 hb3
              go_wp2_with fail
              refine bodyPost_ret (v := .tuple #[.int .i64 0, .bool false]) (by simp [results, Tryz.results52, go_sem]) rfl ⟨0, false, rfl, by omega, Lib.hid HG2.out, HB3.out⟩
            · have g1 : ((it : Int) == 0) = false := by simp; omega
              have g2 : ¬ (it : Int) = 0 := by omega
              have HG2 := Lib.hid (show O = _ by rw [HG1.out, if_pos h0])
              clear HG1 h0
              generalize hor3 : sum ||| it = s2 at *
              clear hor3
              go_wp2_with fail
              refine (F1.out _).mono ?_
              rintro e w2 ⟨rfl, hb2⟩
              have hx1 := (hb2.cell (p := ⟨b, off + k * 3 + 1, none⟩) hbw).trans hc1
              go_wp2_with fail
              refine (I1.out _).mono ?_
              rintro e w3 ⟨rfl, hb3⟩
              have HB3 := Lib.hid (below_next (below_next hB.out hb2) hb3)
              clear hb2 hb3
              go_wp2_with fail
              go_roundw
              case rel => exact ⟨k + 1, s2, by omega, hor, by go_num, rfl, HG2, HB3⟩
              case measure => simp [intOf]; omega
          | false =>
            have hv : valF7 false t.text = flagL t.text := by rw [HV.out]; rfl
            rw [hv] at HG1 HVB
            generalize flagL t.text = it at *
            clear hv
            have hi32 := HVB.out
            have hor : sum ||| it < 32 := Nat.or_lt_two_pow (n := 5) hs32 hi32
            have hor2 : bits BinOp.or IntKind.i64 (sum : Int) (it : Int) = ((sum ||| it : Nat) : Int) := i64_or_nat _ _ (by omega) (by omega)
            by_cases h0 : it = 0
            · have g1 : ((it : Int) == 0) = true := by rw [h0]; rfl
              have HG2 : Hid (O = none) := Lib.hid (by rw [HG1.out, if_neg (by simpa using h0)])
              clear hor hor2 HG1
              go_wp2_with fail
              refine (F1.out _).mono ?_
              rintro e w2 ⟨rfl, hb2⟩
              have HB3 := Lib.hid (below_next hB.out hb2)
              clear hb2
              go_wp2_with fail
              refine bodyPost_ret (v := .tuple #[.int .i64 0, .bool false]) (by simp [results, Tryz.results52, go_sem]) rfl ⟨0, false, rfl, by omega, Lib.hid HG2.out, HB3.out⟩
            · have g1 : ((it : Int) == 0) = false := by simp; omega
              have g2 : ¬ (it : Int) = 0 := by omega
              have HG2 := Lib.hid (show O = _ by rw [HG1.out, if_pos h0])
              clear HG1 h0
              generalize hor3 : sum ||| it = s2 at *
              clear hor3
              go_wp2_with fail
              refine (F1.out _).mono ?_
              rintro e w2 ⟨rfl, hb2⟩
              have HB3 := Lib.hid (below_next hB.out hb2)
              clear hb2
              go_wp2_with fail
              go_roundw
              case rel => exact ⟨k + 1, s2, by omega, hor, by go_num, rfl, HG2, HB3⟩
              case measure => simp [intOf]; omega
        · have f2 : ¬ (t.kind : Int) = 4 := by omega
          have f1 : ((t.kind : Int) == 4) = false := by simpa using f2
          have HG2 : Hid (O = none) := Lib.hid (by
            rw [hG.out, HD.out, show decide (k % 2 = 1) = false by simpa using hodd]
            simp [goW, h4])
          clear hG HD h4
          go_wp2_with fail
          refine bodyPost_ret (v := .tuple #[.int .i64 0, .bool false]) (by simp [results, Tryz.results52, go_sem]) rfl ⟨0, false, rfl, by omega, Lib.hid HG2.out, hB.out⟩
    · obtain rfl : k = n := by omega
      have HE : Hid (O = if decide (k % 2 = 1) = true then some sum else none) := Lib.hid (by
        have h1 := hG.out
        rw [show ts.drop k = [] by rw [← HN.out, List.drop_length]] at h1
        rw [h1]
        cases decide (k % 2 = 1) <;> rfl)
      have e1 : ((k : Int) % 2 == 1) = decide (k % 2 = 1) := by rw [Bool.eq_iff_iff]; simp; omega
      generalize decide (k % 2 = 1) = q at *
      go_wp2_with fail
      refine bodyPost_ret (v := .tuple #[.int .i64 (sum : Int), .bool q]) (by simp [results, Tryz.results52, go_sem]) rfl ⟨sum, q, rfl, hs32, HE, hB.out⟩

/-! Cuts of a list of the reference's tokens. -/

def offT (A : Option Addr) (c lo : Nat) : Option Addr := if c = lo then A else A.map (·.add (lo * 3))
theorem undRT : Tryz.prog.underlying 39 = some (.slice (Tryz.prog.elem 39)) := by kernel_rfl
theorem sizeRT (w : World) : (sizeOf (Tryz.prog.elem 39)).run Tryz.prog w = .ok 3 w := by kernel_rfl
theorem sliceRT_lh (A : Option Addr) (n c lo hi : Nat) (h1 : lo ≤ hi) (h2 : hi ≤ c) (W : World) :
    (Instr.slice 39 (.slice A n c) (some (.int .i64 (lo : Int))) (some (.int .i64 (hi : Int))) none).run Tryz.prog W = .ok (.slice (offT A c lo) (hi - lo) (c - lo)) W := by
  rw [run_slice_lh W _ A n c undRT .i64 .i64 lo hi (by omega) (by omega) (by omega), sizeRT]
  rfl
theorem sliceRT_l (A : Option Addr) (n c lo : Nat) (h1 : lo ≤ n) (W : World) :
    (Instr.slice 39 (.slice A n c) (some (.int .i64 (lo : Int))) none none).run Tryz.prog W = .ok (.slice (offT A c lo) (n - lo) (c - lo)) W := by
  rw [run_slice_l W _ A n c undRT .i64 lo (by omega) (by omega), sizeRT]
  rfl
theorem sliceRT_h (A : Option Addr) (n c hi : Nat) (h1 : hi ≤ c) (W : World) :
    (Instr.slice 39 (.slice A n c) none (some (.int .i64 (hi : Int))) none).run Tryz.prog W = .ok (.slice A hi c) W := by
  rw [run_slice_h W _ A n c undRT .i64 hi (by omega) (by omega), sizeRT]
  have e : (if c = 0 then A else A.map (·.add (0 * 3))) = A := by
    split
    · rfl
    · rcases A with _ | ⟨b, o, s⟩ <;> simp [Addr.add]
  simp only [Result.andThen, sliced, e, Int.toNat_natCast, Nat.sub_zero]
theorem slAt_drop {w : World} {A : Option Addr} {ts : List Tok} {c lo : Nat} (h : SlAt encT 3 w A ts) (hc : ts.length ≤ c) (hlo : lo ≤ ts.length) : SlAt encT 3 w (offT A c lo) (ts.drop lo) := by
  by_cases h0 : lo = ts.length
  · exact .inl (by rw [h0, List.drop_length])
  rcases h with h | ⟨b, off, rfl, hlt, hcl⟩
  · subst h; simp at hlo h0; omega
  · refine .inr ⟨b, off + lo * 3, ?_, hlt, fun j x hj i u hi => ?_⟩
    · unfold offT
      rw [if_neg (by omega)]
      simp [Addr.add]
    · rw [show off + lo * 3 + j * 3 + i = off + (lo + j) * 3 + i by omega]
      exact hcl (lo + j) x (by rw [List.getElem?_drop] at hj; exact hj) i u hi
theorem slAt_take {w : World} {A : Option Addr} {ts : List Tok} {hi : Nat} (h : SlAt encT 3 w A ts) : SlAt encT 3 w A (ts.take hi) := by
  rcases h with h | ⟨b, off, rfl, hlt, hcl⟩
  · exact .inl (by simp [h])
  · refine .inr ⟨b, off, rfl, hlt, fun j x hj i u hi' => hcl j x ?_ i u hi'⟩
    rw [List.getElem?_take] at hj
    split at hj
    · exact hj
    · cases hj
theorem sliceAtRT (x : Value) (lo hi mx : Option Value) (W : World) : (Instr.sliceAt 39 x lo hi mx).run Tryz.prog W = (Instr.slice 39 x lo hi mx).run Tryz.prog W := run_sliceAt_slice W _ _ _ _ _ undRT
end Go.Proofs.YthfopimgdikpgaaGreatDoor
