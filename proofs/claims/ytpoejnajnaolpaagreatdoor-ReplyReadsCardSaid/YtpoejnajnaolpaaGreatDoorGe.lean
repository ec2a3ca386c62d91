/- resp: among. -/
import Derived.Test.YtpoejnajnaolpaaGreatDoorGb
import Derived.Test.YtpoejnajnaolpaaGreatDoorGa
import Derived.Lib.LazyBuf
import Derived.Deep.Cut
namespace Go.Proofs.YtpoejnajnaolpaaGreatDoor
open Go.RowKit

set_option maxRecDepth 100000 in
set_option maxHeartbeats 4000000 in
theorem among_go (kind n status items flags uid size : Int) (tag text : ByteArray) (A : Option Addr) (m k : Nat) (q1 q2 q4 q16 : Bool) (e1 : (bits BinOp.and IntKind.i64 items 1 == 0) = q1) (e2 : (bits BinOp.and IntKind.i64 items 2 == 0) = q2) (e4 : (bits BinOp.and IntKind.i64 items 4 == 0) = q4) (e16 : (bits BinOp.and IntKind.i64 items 16 == 0) = q16) (w : World) :
    Calls Tryz.prog 90 #[.agg #[.int .i64 kind, .int .u32 n, .string tag, .int .i64 status, .string text, .int .i64 items, .int .u8 flags, .int .u32 uid, .int .u32 size, .slice A m k]] w fun e w' => e = .returned (.agg #[.int .i64 kind, .int .u32 n, .string tag, .int .i64 status, .string text, .int .i64 items, .int .u8 (if q1 = true then 0 else flags), .int .u32 (if q2 = true then 0 else uid), .int .u32 (if q4 = true then 0 else size), if q16 = true then .slice none 0 0 else .slice A m k]) ∧ Below w.heap.size w w' := by
  cases q1 <;> cases q2 <;> cases q4 <;> cases q16
  all_goals
    go_enter Tryz.func90, Tryz.ntmps90
    go_wp2_with fail
    refine bodyPost_ret (v := .agg #[.int .i64 kind, .int .u32 n, .string tag, .int .i64 status, .string text, .int .i64 items, _, _, _, _]) (by simp [results, Tryz.results90, go_sem]) rfl ⟨rfl, ?_⟩
    repeat (first | exact Below.refl _ _ | refine Below.setCell ?_ (by simp) _ | refine Below.alloc ?_ (by simp) _)
end Go.Proofs.YtpoejnajnaolpaaGreatDoor

namespace Go.Proofs.YtpoejnajnaolpaaGreatDoor
open Go.RowKit

set_option maxRecDepth 100000 in
set_option maxHeartbeats 1000000 in
theorem count1_go (kind n status items flags uid size : Int) (tag text : ByteArray) (A : Option Addr) (m k : Nat) (w : World) :
    Calls Tryz.prog 86 #[.agg #[.int .i64 kind, .int .u32 n, .string tag, .int .i64 status, .string text, .int .i64 items, .int .u8 flags, .int .u32 uid, .int .u32 size, .slice A m k]] w fun e w' => e = .returned (.agg #[.int .i64 kind, .int .u32 n, .string ⟨#[]⟩, .int .i64 0, .string ⟨#[]⟩, .int .i64 0, .int .u8 0, .int .u32 0, .int .u32 0, .slice none 0 0]) ∧ Below w.heap.size w w' := by
  go_enter Tryz.func86, Tryz.ntmps86
  go_wp2_with fail
  refine bodyPost_ret (v := .agg #[.int .i64 kind, .int .u32 n, .string ⟨#[]⟩, .int .i64 0, .string ⟨#[]⟩, .int .i64 0, .int .u8 0, .int .u32 0, .int .u32 0, .slice none 0 0]) (by simp [results, Tryz.results86, go_sem]) rfl ⟨rfl, ?_⟩
  repeat (first | exact Below.refl _ _ | refine Below.setCell ?_ (by simp) _ | refine Below.alloc ?_ (by simp) _)

set_option maxRecDepth 100000 in
set_option maxHeartbeats 1000000 in
theorem text1_go (kind n status items flags uid size : Int) (tag text : ByteArray) (A : Option Addr) (m k : Nat) (w : World) :
    Calls Tryz.prog 95 #[.agg #[.int .i64 kind, .int .u32 n, .string tag, .int .i64 status, .string text, .int .i64 items, .int .u8 flags, .int .u32 uid, .int .u32 size, .slice A m k]] w fun e w' => e = .returned (.agg #[.int .i64 kind, .int .u32 0, .string ⟨#[]⟩, .int .i64 0, .string text, .int .i64 0, .int .u8 0, .int .u32 0, .int .u32 0, .slice none 0 0]) ∧ Below w.heap.size w w' := by
  go_enter Tryz.func95, Tryz.ntmps95
  go_wp2_with fail
  refine bodyPost_ret (v := .agg #[.int .i64 kind, .int .u32 0, .string ⟨#[]⟩, .int .i64 0, .string text, .int .i64 0, .int .u8 0, .int .u32 0, .int .u32 0, .slice none 0 0]) (by simp [results, Tryz.results95, go_sem]) rfl ⟨rfl, ?_⟩
  repeat (first | exact Below.refl _ _ | refine Below.setCell ?_ (by simp) _ | refine Below.alloc ?_ (by simp) _)

set_option maxRecDepth 100000 in
set_option maxHeartbeats 1000000 in
theorem flags1_go (kind n status items flags uid size : Int) (tag text : ByteArray) (A : Option Addr) (m k : Nat) (w : World) :
    Calls Tryz.prog 93 #[.agg #[.int .i64 kind, .int .u32 n, .string tag, .int .i64 status, .string text, .int .i64 items, .int .u8 flags, .int .u32 uid, .int .u32 size, .slice A m k]] w fun e w' => e = .returned (.agg #[.int .i64 kind, .int .u32 0, .string ⟨#[]⟩, .int .i64 0, .string ⟨#[]⟩, .int .i64 0, .int .u8 0, .int .u32 0, .int .u32 0, .slice none 0 0]) ∧ Below w.heap.size w w' := by
  go_enter Tryz.func93, Tryz.ntmps93
  go_wp2_with fail
  refine bodyPost_ret (v := .agg #[.int .i64 kind, .int .u32 0, .string ⟨#[]⟩, .int .i64 0, .string ⟨#[]⟩, .int .i64 0, .int .u8 0, .int .u32 0, .int .u32 0, .slice none 0 0]) (by simp [results, Tryz.results93, go_sem]) rfl ⟨rfl, ?_⟩
  repeat (first | exact Below.refl _ _ | refine Below.setCell ?_ (by simp) _ | refine Below.alloc ?_ (by simp) _)

set_option maxRecDepth 100000 in
set_option maxHeartbeats 1000000 in
theorem reply_go (tag text : ByteArray) (status : Int) (w : World) :
    Calls Tryz.prog 99 #[.string tag, .int .i64 status, .string text] w fun e w' => e = .returned (.agg #[.int .i64 9, .int .u32 0, .string tag, .int .i64 status, .string text, .int .i64 0, .int .u8 0, .int .u32 0, .int .u32 0, .slice none 0 0]) ∧ Below w.heap.size w w' := by
  go_enter Tryz.func99, Tryz.ntmps99
  go_wp2_with fail
  refine bodyPost_ret (v := .agg #[.int .i64 9, .int .u32 0, .string tag, .int .i64 status, .string text, .int .i64 0, .int .u8 0, .int .u32 0, .int .u32 0, .slice none 0 0]) (by simp [results, Tryz.results99, go_sem]) rfl ⟨rfl, ?_⟩
  repeat (first | exact Below.refl _ _ | refine Below.setCell ?_ (by simp) _ | refine Below.alloc ?_ (by simp) _)

set_option maxRecDepth 100000 in
set_option maxHeartbeats 1000000 in
theorem tagged1_go (kind n status items flags uid size : Int) (tag text : ByteArray) (A : Option Addr) (m k : Nat) (w : World) :
    Calls Tryz.prog 74 #[.agg #[.int .i64 kind, .int .u32 n, .string tag, .int .i64 status, .string text, .int .i64 items, .int .u8 flags, .int .u32 uid, .int .u32 size, .slice A m k]] w fun e w' => e = .returned (.agg #[.int .i64 9, .int .u32 0, .string tag, .int .i64 status, .string text, .int .i64 0, .int .u8 0, .int .u32 0, .int .u32 0, .slice none 0 0]) ∧ Below w.heap.size w w' := by
  have RP := Lib.hid (fun W => reply_go tag text status W)
  go_enter Tryz.func74, Tryz.ntmps74
  go_wp2_with fail
  refine (RP.out _).mono ?_
  rintro e w1 ⟨rfl, hb⟩
  obtain ⟨hc, hf⟩ := bcell hb
  have hz : w.heap.size + 1 < w1.heap.size := by have := hb.size; simp at this; omega
  obtain ⟨-, hr, hB, -⟩ := two_new hb
  have HR := Lib.hid hr
  have HB := Lib.hid hB
  clear hr hB hb
  go_wp2_with fail
  change bodyPost _ _ _ _ _ (stR w1 (w.heap.size + 1) (.int .i64 9) (.int .u32 0) (.string tag) (.int .i64 status) (.string text) (.int .i64 0) (.int .u8 0) (.int .u32 0) (.int .u32 0) (.slice none 0 0))
  have hq := stR_block HR.out (.int .i64 9) (.int .u32 0) (.string tag) (.int .i64 status) (.string text) (.int .i64 0) (.int .u8 0) (.int .u32 0) (.int .u32 0) (.slice none 0 0)
  have HG := Lib.hid (stR_grown w1 (w.heap.size + 1) (.int .i64 9) (.int .u32 0) (.string tag) (.int .i64 status) (.string text) (.int .i64 0) (.int .u8 0) (.int .u32 0) (.int .u32 0) (.slice none 0 0))
  generalize stR w1 (w.heap.size + 1) (.int .i64 9) (.int .u32 0) (.string tag) (.int .i64 status) (.string text) (.int .i64 0) (.int .u8 0) (.int .u32 0) (.int .u32 0) (.slice none 0 0) = w9 at *
  obtain ⟨q0, q1', q2', q3, q4', q5, q6, q7, q8, q9⟩ := cells10 hq
  clear hq hc hf
  refine bodyPost_ret (v := .agg #[.int .i64 9, .int .u32 0, .string tag, .int .i64 status, .string text, .int .i64 0, .int .u8 0, .int .u32 0, .int .u32 0, .slice none 0 0]) (by simp [results, Tryz.results74, go_sem, q0, q1', q2', q3, q4', q5, q6, q7, q8, q9]) rfl ⟨rfl, ?_⟩
  exact below_st HB.out HG.out (by omega)
end Go.Proofs.YtpoejnajnaolpaaGreatDoor

namespace Go.Proofs.YtpoejnajnaolpaaGreatDoor
open Go.RowKit

/-- What a function returns that copies some fields of a response. -/
def OwnPost (r : RI) (w : World) (e : Ending) (w' : World) : Prop := ∃ A' k', e = .returned (rsV r A' k') ∧ ByAt w.heap.size w' A' k' r.body ∧ Below w.heap.size w w'
theorem among_sl (kind n status items flags uid size : Int) (tag text : ByteArray) (A : Option Addr) (m k : Nat) (q1 q2 q4 q16 : Bool) (e1 : (bits BinOp.and IntKind.i64 items 1 == 0) = q1) (e2 : (bits BinOp.and IntKind.i64 items 2 == 0) = q2) (e4 : (bits BinOp.and IntKind.i64 items 4 == 0) = q4) (e16 : (bits BinOp.and IntKind.i64 items 16 == 0) = q16)
    (fl ui si : Int) (A' : Option Addr) (m' k' : Nat) (H : Hid (fl = (if q1 = true then 0 else flags) ∧ ui = (if q2 = true then 0 else uid) ∧ si = (if q4 = true then 0 else size) ∧ A' = (if q16 = true then none else A) ∧ m' = (if q16 = true then 0 else m) ∧ k' = (if q16 = true then 0 else k))) (w : World) :
    Calls Tryz.prog 90 #[.agg #[.int .i64 kind, .int .u32 n, .string tag, .int .i64 status, .string text, .int .i64 items, .int .u8 flags, .int .u32 uid, .int .u32 size, .slice A m k]] w fun e w' => e = .returned (.agg #[.int .i64 kind, .int .u32 n, .string tag, .int .i64 status, .string text, .int .i64 items, .int .u8 fl, .int .u32 ui, .int .u32 si, .slice A' m' k']) ∧ Below w.heap.size w w' := by
  obtain ⟨rfl, rfl, rfl, rfl, rfl, rfl⟩ := H.out
  exact (among_go kind n status items flags uid size tag text A m k q1 q2 q4 q16 e1 e2 e4 e16 w).mono fun e w' ⟨he, hb⟩ => ⟨by rw [he]; cases q16 <;> rfl, hb⟩

set_option maxRecDepth 100000 in
set_option maxHeartbeats 1000000 in
theorem fetched1_go (kind n status items flags uid size : Int) (tag text : ByteArray) (A : Option Addr) (m k : Nat) (q1 q2 q4 q16 : Bool) (e1 : (bits BinOp.and IntKind.i64 items 1 == 0) = q1) (e2 : (bits BinOp.and IntKind.i64 items 2 == 0) = q2) (e4 : (bits BinOp.and IntKind.i64 items 4 == 0) = q4) (e16 : (bits BinOp.and IntKind.i64 items 16 == 0) = q16)
    (fl ui si : Int) (A' : Option Addr) (m' k' : Nat) (H : Hid (fl = (if q1 = true then 0 else flags) ∧ ui = (if q2 = true then 0 else uid) ∧ si = (if q4 = true then 0 else size) ∧ A' = (if q16 = true then none else A) ∧ m' = (if q16 = true then 0 else m) ∧ k' = (if q16 = true then 0 else k))) (w : World) :
    Calls Tryz.prog 69 #[.agg #[.int .i64 kind, .int .u32 n, .string tag, .int .i64 status, .string text, .int .i64 items, .int .u8 flags, .int .u32 uid, .int .u32 size, .slice A m k]] w fun e w' => e = .returned (.agg #[.int .i64 kind, .int .u32 n, .string ⟨#[]⟩, .int .i64 0, .string ⟨#[]⟩, .int .i64 items, .int .u8 fl, .int .u32 ui, .int .u32 si, .slice A' m' k']) ∧ Below w.heap.size w w' := by
  have AM := Lib.hid (fun W => among_sl kind n 0 items flags uid size ⟨#[]⟩ ⟨#[]⟩ A m k q1 q2 q4 q16 e1 e2 e4 e16 fl ui si A' m' k' H W)
  clear H e1 e2 e4 e16
  go_enter Tryz.func69, Tryz.ntmps69
  go_wp2_with fail
  refine (AM.out _).mono ?_
  rintro e w1 ⟨rfl, hb⟩
  obtain ⟨hc, hf⟩ := bcell hb
  have hz : w.heap.size + 1 < w1.heap.size := by have := hb.size; simp at this; omega
  obtain ⟨-, hr, hB, -⟩ := two_new hb
  have HR := Lib.hid hr
  have HB := Lib.hid hB
  clear hr hB hb
  go_wp2_with fail
  change bodyPost _ _ _ _ _ (stR w1 (w.heap.size + 1) (.int .i64 kind) (.int .u32 n) (.string ⟨#[]⟩) (.int .i64 0) (.string ⟨#[]⟩) (.int .i64 items) (.int .u8 fl) (.int .u32 ui) (.int .u32 si) (.slice A' m' k'))
  have hq := stR_block HR.out (.int .i64 kind) (.int .u32 n) (.string ⟨#[]⟩) (.int .i64 0) (.string ⟨#[]⟩) (.int .i64 items) (.int .u8 fl) (.int .u32 ui) (.int .u32 si) (.slice A' m' k')
  have HG := Lib.hid (stR_grown w1 (w.heap.size + 1) (.int .i64 kind) (.int .u32 n) (.string ⟨#[]⟩) (.int .i64 0) (.string ⟨#[]⟩) (.int .i64 items) (.int .u8 fl) (.int .u32 ui) (.int .u32 si) (.slice A' m' k'))
  generalize stR w1 (w.heap.size + 1) (.int .i64 kind) (.int .u32 n) (.string ⟨#[]⟩) (.int .i64 0) (.string ⟨#[]⟩) (.int .i64 items) (.int .u8 fl) (.int .u32 ui) (.int .u32 si) (.slice A' m' k') = w9 at *
  obtain ⟨q0, q1', q2', q3, q4', q5, q6, q7, q8, q9⟩ := cells10 hq
  clear hq hc hf
  refine bodyPost_ret (v := .agg #[.int .i64 kind, .int .u32 n, .string ⟨#[]⟩, .int .i64 0, .string ⟨#[]⟩, .int .i64 items, .int .u8 fl, .int .u32 ui, .int .u32 si, .slice A' m' k']) (by simp [results, Tryz.results69, go_sem, q0, q1', q2', q3, q4', q5, q6, q7, q8, q9]) rfl ⟨rfl, ?_⟩
  exact below_st HB.out HG.out (by omega)

theorem own_of {q16 : Bool} {r : RI} {A : Option Addr} {k : Nat} {w w' : World} (hA : ByAt w.heap.size w A k r.body) (hb : Below w.heap.size w w') :
    ByAt w.heap.size w' (if q16 = true then none else A) (if q16 = true then 0 else k) (if (!q16) = true then r.body else []) := by
  cases q16
  · exact hA.below hb
  · exact ByAt.nil _ _ _ _
theorem among_any (r : RI) (A : Option Addr) (k : Nat) (w : World) (hA : ByAt w.heap.size w A k r.body) :
    Calls Tryz.prog 90 #[rsV r A k] w (OwnPost (rsAmong r) w) := by
  refine (among_sl r.kind r.n r.status r.items r.flags r.uid r.size ⟨r.tag.toArray⟩ ⟨r.text.toArray⟩ A r.body.length k _ _ _ _ rfl rfl rfl rfl _ _ _ _ _ _ (Lib.hid ⟨rfl, rfl, rfl, rfl, rfl, rfl⟩) w).mono fun e w' ⟨he, hb⟩ => ⟨_, _, ?_, own_of hA hb, hb⟩
  rw [he]
  unfold rsV rsAmong rsBit bne
  generalize (bits BinOp.and IntKind.i64 r.items 1 == 0) = q1
  generalize (bits BinOp.and IntKind.i64 r.items 2 == 0) = q2
  generalize (bits BinOp.and IntKind.i64 r.items 4 == 0) = q4
  generalize (bits BinOp.and IntKind.i64 r.items 16 == 0) = q16
  cases q1 <;> cases q2 <;> cases q4 <;> cases q16 <;> rfl
theorem fetched1_any (r : RI) (A : Option Addr) (k : Nat) (w : World) (hA : ByAt w.heap.size w A k r.body) :
    Calls Tryz.prog 69 #[rsV r A k] w (OwnPost (rsAmong ⟨r.kind, r.n, [], 0, [], r.items, r.flags, r.uid, r.size, r.body⟩) w) := by
  refine (fetched1_go r.kind r.n r.status r.items r.flags r.uid r.size ⟨r.tag.toArray⟩ ⟨r.text.toArray⟩ A r.body.length k _ _ _ _ rfl rfl rfl rfl _ _ _ _ _ _ (Lib.hid ⟨rfl, rfl, rfl, rfl, rfl, rfl⟩) w).mono fun e w' ⟨he, hb⟩ => ⟨_, _, ?_, own_of hA hb, hb⟩
  rw [he]
  unfold rsV rsAmong rsBit bne
  generalize (bits BinOp.and IntKind.i64 r.items 1 == 0) = q1
  generalize (bits BinOp.and IntKind.i64 r.items 2 == 0) = q2
  generalize (bits BinOp.and IntKind.i64 r.items 4 == 0) = q4
  generalize (bits BinOp.and IntKind.i64 r.items 16 == 0) = q16
  cases q1 <;> cases q2 <;> cases q4 <;> cases q16 <;> rfl

/-- The function 'own' of a kind. -/
def ownF (k : Int) : FuncId := if k = 1 ∨ k = 2 ∨ k = 3 then 86 else if k = 4 then 69 else if k = 5 then 93 else if k = 9 then 74 else 95
theorem own_any9 (r : RI) (A : Option Addr) (k : Nat) (w : World) (hA : ByAt w.heap.size w A k r.body) :
    Calls Tryz.prog (ownF r.kind) #[rsV r A k] w (OwnPost (rsOwn r) w) := by
  unfold ownF rsOwn
  split
  · exact (count1_go r.kind r.n r.status r.items r.flags r.uid r.size ⟨r.tag.toArray⟩ ⟨r.text.toArray⟩ A r.body.length k w).mono fun e w' ⟨he, hb⟩ => ⟨none, 0, he, ByAt.nil _ _ _ _, hb⟩
  split
  · exact fetched1_any r A k w hA
  split
  · exact (flags1_go r.kind r.n r.status r.items r.flags r.uid r.size ⟨r.tag.toArray⟩ ⟨r.text.toArray⟩ A r.body.length k w).mono fun e w' ⟨he, hb⟩ => ⟨none, 0, he, ByAt.nil _ _ _ _, hb⟩
  split
  · exact (tagged1_go r.kind r.n r.status r.items r.flags r.uid r.size ⟨r.tag.toArray⟩ ⟨r.text.toArray⟩ A r.body.length k w).mono fun e w' ⟨he, hb⟩ => ⟨none, 0, he, ByAt.nil _ _ _ _, hb⟩
  · exact (text1_go r.kind r.n r.status r.items r.flags r.uid r.size ⟨r.tag.toArray⟩ ⟨r.text.toArray⟩ A r.body.length k w).mono fun e w' ⟨he, hb⟩ => ⟨none, 0, he, ByAt.nil _ _ _ _, hb⟩
end Go.Proofs.YtpoejnajnaolpaaGreatDoor

namespace Go.Proofs.YtpoejnajnaolpaaGreatDoor
open Go.RowKit

set_option maxRecDepth 100000 in
set_option maxHeartbeats 1000000 in
theorem clone9_any (A : Option Addr) (c n : Nat) (l : List UInt8) (hn : l.length = n) (hl : n ≤ 1000000) (w : World) (hS : ByAt w.heap.size w A c l) :
    Calls Tryz.prog 53 #[.slice A n c] w fun e w' => ∃ A' c', e = .returned (.slice A' n c') ∧ w'.ownsRow w.heap.size 5 1 (.slice A' n c') n (flatL encB l) ∧ Below w.heap.size w w' := by
  obtain ⟨i0, hi, hz0, hz1, hz2⟩ := info_parts infoByte
  have q22 := fun (w : World) (a : Option Addr) (l c : Nat) => run_eql_slice_nil (P := Tryz.prog) w 22 5 a l c Tryz.underlying22
  rcases A with _ | ad
  · obtain rfl : l = [] := by
      rcases hS.lies with h | ⟨b, off, hA, _⟩
      · exact h
      · cases hA
    obtain rfl : n = 0 := hn.symm
    clear hS hl hn
    go_enter Tryz.func53, Tryz.ntmps53
    go_wp2_with fail
    go_ret
    exact ⟨none, 0, rfl, World.ownsRow_nil _ _ _ _, Below.refl _ _⟩
  · have HS := Lib.hid (hS.here.below (below_al w (.cells #[] 5)))
    have HOE := Lib.hid (own_empty (sz := 1) (heap_alloc_new w (.cells #[] 5)) (Nat.le_refl _))
    have H63 := Lib.hid (show 0 + l.length ≤ maxLen by unfold maxLen; omega)
    have HBY := Lib.hid (show (0 + l.length) * 1 ≤ 140737488355328 by omega)
    have HB0 := Lib.hid (below_al w (.cells #[] 5))
    have HSZ := Lib.hid HB0.out.size
    subst hn
    clear hS hl
    go_enter Tryz.func53, Tryz.ntmps53
    go_wp2_with (at_builtin; refine wpList_append_sl _ rfl _ _ 22 rfl w.heap.size 5 i0 _ 1 Tryz.underlying22 hi hz0 hz1 hz2 rfl (by decide) _ 0 [] rfl HOE.out (some ad) l c rfl encB_len HS.out.sl (one_flatB l) H63.out HBY.out HSZ.out ?_; intro v2 w2 hown2 hg2)
    rw [Nat.zero_add, List.nil_append] at hown2
    obtain ⟨A2, c2, rfl⟩ := own_any hown2
    have HB2 := Lib.hid (HB0.out.grown hg2 HSZ.out (fun kk hkk => (HOE.out.lt kk hkk).1))
    have HO := Lib.hid hown2
    clear hown2 hg2
    go_ret
    exact ⟨A2, c2, rfl, HO.out, HB2.out⟩

theorem own_past9 {base b n : Nat} {T : TypeId} {v : Value} {xs : List Value} {W W' : World} (h : W.ownsRow base T 1 v n xs) (hg : W.grownBy W' (some b)) (hlt : b < base) : W'.ownsRow base T 1 v n xs := by
  refine ⟨h.1, ?_⟩
  rcases h.2 with h1 | ⟨g, cap, cur, h1, h2, h3, h4⟩
  · exact .inl h1
  · exact .inr ⟨g, cap, cur, h1, h2, (hg.block g (Array.getElem?_eq_some_iff.1 h3).1 (fun e => by have := Option.some.inj e; omega)).trans h3, h4⟩
theorem own_base9 {base b n : Nat} {T : TypeId} {v : Value} {xs : List Value} {W : World} (h : W.ownsRow base T 1 v n xs) (hlt : b ≤ base) : W.ownsRow b T 1 v n xs := by
  refine ⟨h.1, ?_⟩
  rcases h.2 with h1 | ⟨g, cap, cur, h1, h2, h3, h4⟩
  · exact .inl h1
  · exact .inr ⟨g, cap, cur, h1, Nat.le_trans hlt h2, h3, h4⟩
end Go.Proofs.YtpoejnajnaolpaaGreatDoor
