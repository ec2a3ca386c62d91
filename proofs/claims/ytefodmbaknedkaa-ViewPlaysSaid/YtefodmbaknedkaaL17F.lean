/- The law ViewFollows. -/
import Derived.Test.YtefodmbaknedkaaL17P
namespace Go.Proofs.Ytefodmbaknedkaa
open Go.RowKit

/-- An argument lies below. -/
theorem arg_low17 {A : Option Addr} {l : List EvI} {w : World} (hS : SlAt encEv 3 w A l) : l = [] ∨ ∀ a, A = some a → a.block < w.heap.size := by
  rcases hS with h | ⟨b, off, rfl, hb, _⟩
  · exact .inl h
  · exact .inr fun a ha => by cases ha; exact hb
set_option maxRecDepth 100000 in
set_option maxHeartbeats 4000000 in
theorem follows_main (A : Option Addr) (c : Nat) (l : List Nat) (hl : l.length ≤ 60) (hb : ∀ n ∈ l, n ≤ 4294967295) (A2 : Option Addr) (c2 : Nat) (es : List EvI) (hec : es.length ≤ c2) (hes : es.length ≤ 60) (hok : ∀ e ∈ es, evOk e) (w : World) (hS : SlAt encU 1 w A l) (hS2 : SlAt encEv 3 w A2 es) :
    Calls Try.prog 5 #[.slice A l.length c, .slice A2 es.length c2] w fun e w' => e = .returned (.bool true) ∧ Below w.heap.size w w' := by
  obtain ⟨O, hO, hol⟩ := isSet_ex l
  have hl1 : ¬ (60 : Int) < (l.length : Int) := by omega
  have hl2 : ¬ (60 : Int) < (es.length : Int) := by omega
  have AL := Lib.hid (fun W => alive17_any W)
  have NV := Lib.hid (vnew_any A c l O (by omega) hb hO w hS)
  have NR := Lib.hid (fun W (hW : Below w.heap.size w W) => rnew_any (c := c) O (by omega) hb hO (hS.below hW))
  have HOL := Lib.hid (Nat.le_trans hol hl)
  have HS2 := Lib.hid hS2
  have HOK := Lib.hid hok
  have HLW := Lib.hid (arg_low17 hS2)
  clear hS hO hb hol hS2 hok
  go_enter Try.func5, Try.ntmps5
  go_wp2_with fail
  refine NV.out.mono ?_
  rintro e w1 ⟨g, S, rfl, t1, s1, hb1⟩
  have Q1 : Hid (OX w.heap.size (VT g O) [] w w1) := Lib.hid (OX.start rfl t1 s1 hb1)
  clear t1 s1 hb1 NV
  go_wp2_with fail
  refine (NR.out _ Q1.out.be).mono ?_
  rintro e w2 ⟨v, rfl, ho, hb2⟩
  obtain ⟨A3, c3, rfl⟩ := own_any ho
  have q2 := Q1.out.vbel hb2
  have hlo := HOL.out
  have C2 := Lib.hid (q2.vapply A2 c2 es hec (by omega) (by omega) HOK.out (HS2.out.below q2.be) (HLW.out.imp id .inl))
  have HG := Lib.hid q2.vgood
  have HF := Lib.hid (folsV_ap es O false O.length q2.vgood HOK.out (Nat.le_refl _) (fun _ => rfl) (fun h => by cases h))
  have HP := Lib.hid (apV_plain es O false)
  have HN := Lib.hid (apV_n es O false)
  have HRL := Lib.hid (apV_len es O false)
  generalize (apV O false es).1 = V at *
  generalize (apV O false es).2 = R at *
  have hrl := HRL.out
  clear Q1 ho hb2 NR q2
  go_wp2_with fail
  refine C2.out.mono ?_
  rintro e w3 ⟨A4, c4, rfl, q3⟩
  have Q3 := Lib.hid q3
  clear q3 C2
  go_wp2_with fail
  go_loopw [6, 7, 30] (fun sn so i wr => ∃ k : Nat, k ≤ R.length ∧ i = .int .i64 k ∧ so = .bool true ∧ ∃ m : Nat, sn = .int .i64 m ∧ m ≤ 1000 ∧ Hid (folsV m (R.drop k) = some V.length) ∧ Hid (OX w.heap.size (VT g V) [rsI w.heap.size A4 c4 R] w wr)) (fun _ _ i _ => R.length - (intOf i).toNat)
  case atStart => exact ⟨0, Nat.zero_le _, rfl, rfl, O.length, rfl, by omega, HF, Q3⟩
  case round =>
    obtain ⟨k, hk, rfl, rfl, m, rfl, hm, hf, hQ⟩ := hrel
    clear Q3 HF
    have hk0 : (0 : Int) ≤ (k : Int) := by omega
    by_cases hlt : k < R.length
    · have hra := rsI_at HP.out (hQ.out.it _ (List.mem_cons_self ..))
      obtain ⟨b, off, rfl, hb, c0, c1, c2, c3, c4', c5, c6, c7, c8, c9⟩ := hra.at (j := k) (by rw [List.length_map]; exact hlt)
      have er : (R.map rx0)[k]'(by rw [List.length_map]; exact hlt) = rx0 R[k] := List.getElem_map ..
      rw [er] at c0 c1 c2 c3 c4' c5 c6 c7 c8 c9
      have hk1 : (k : Int) < (R.length : Int) := by omega
      have hrn := HN.out R[k] (List.getElem_mem hlt)
      have hfd := hf.out
      rw [List.drop_eq_getElem_cons hlt] at hfd
      unfold folsV at hfd
      generalize R[k] = r at *
      unfold rx0 at c0 c1 c2 c3 c4' c5 c6 c7 c8 c9
      simp only at c0 c1 c2 c3 c4' c5 c6 c7 c8 c9
      have hmax := folV_le m r
      have hoks : (folV m r).2 = true := by
        cases h : (folV m r).2 with
        | true => rfl
        | false => rw [h] at hfd; cases hfd
      rw [if_pos hoks] at hfd
      have FC := fun W => vfollow_any m (by omega) r none 0 (by omega) W
      rw [hoks] at FC
      have HFD := Lib.hid hfd
      have hm2 : (folV m r).1 ≤ 1000 := by omega
      have FC := Lib.hid FC
      generalize (folV m r).1 = m2 at *
      have HAL := Lib.hid (below_al wr (.cells #[.int .i64 r.kind, .int .u32 (r.n : Int), .string ⟨r.tag.toArray⟩, .int .i64 r.status, .string ⟨r.text.toArray⟩, .int .i64 r.items, .int .u8 (r.flags : Int), .int .u32 (r.uid : Int), .int .u32 (r.size : Int), .slice none r.body.length 0] 47))
      clear hfd hoks hmax hra er hf
      go_wp2_with fail
      refine (FC.out _).mono ?_
      rintro e w4 ⟨rfl, h4⟩
      have Q4 := Lib.hid (hQ.out.vbel (below_next HAL.out h4))
      clear h4 FC HAL c0 c1 c2 c3 c4' c5 c6 c7 c8 c9
      go_wp2_with fail
      go_roundw
      case rel => exact ⟨k + 1, by omega, by go_num, rfl, m2, rfl, hm2, HFD, Q4⟩
      case measure => simp [intOf]; omega
    · obtain rfl : k = R.length := by omega
      have hme : m = V.length := by
        have := hf.out
        rw [List.drop_length] at this
        unfold folsV at this
        exact Option.some.inj this
      subst hme
      clear hf
      go_wp2_with fail
      refine (AL.out _).mono ?_
      rintro e w4 ⟨rfl, h4⟩
      have C4 := Lib.hid ((hQ.out.vbel h4).vlen)
      clear h4 hQ
      go_wp2_with fail
      refine C4.out.mono ?_
      rintro e w5 ⟨rfl, q5⟩
      have HB := Lib.hid q5.be
      clear q5 C4
      go_wp2_with fail
      go_ret
      exact ⟨by simp, HB.out⟩
theorem viewFollows_law (A : Option Addr) (c : Nat) (l : List Nat) (hlm : l.length ≤ maxLen) (hb : ∀ n ∈ l, n ≤ 4294967295) (A2 : Option Addr) (c2 : Nat) (es : List EvI) (hec : es.length ≤ c2) (hem : es.length ≤ maxLen) (hok : ∀ e ∈ es, evOk e) (w : World) (hS : SlAt encU 1 w A l) (hS2 : SlAt encEv 3 w A2 es) :
    Calls Try.prog 5 #[.slice A l.length c, .slice A2 es.length c2] w fun e w' => e = .returned (.bool true) ∧ Below w.heap.size w w' := by
  unfold maxLen at hlm hem
  have AL := Lib.hid (alive17_any w)
  by_cases hl : l.length ≤ 60
  · by_cases he : es.length ≤ 60
    · exact follows_main A c l hl hb A2 c2 es hec he hok w hS hS2
    · have hl1 : ¬ (60 : Int) < (l.length : Int) := by omega
      have hl2 : (60 : Int) < (es.length : Int) := by omega
      clear hl he hS hS2 hb hok
      generalize l.length = n at *
      generalize es.length = n2 at *
      go_enter Try.func5, Try.ntmps5
      go_wp2_with fail
      refine AL.out.mono ?_
      rintro e w1 ⟨rfl, hb⟩
      go_wp2_with fail
      go_ret
      exact ⟨rfl, hb⟩
  · have hl1 : (60 : Int) < (l.length : Int) := by omega
    clear hl hS hS2 hb hok
    generalize l.length = n at *
    generalize es.length = n2 at *
    go_enter Try.func5, Try.ntmps5
    go_wp2_with fail
    refine AL.out.mono ?_
    rintro e w1 ⟨rfl, hb⟩
    go_wp2_with fail
    go_ret
    exact ⟨rfl, hb⟩
end Go.Proofs.Ytefodmbaknedkaa
