/- resp: among. -/
import Derived.Test.YtcpbgceplgcblaaDoorGb
import Derived.Test.YtcpbgceplgcblaaDoorGa
import Derived.Lib.LazyBuf
import Derived.Deep.Cut
namespace Go.Proofs.YtcpbgceplgcblaaDoor
open Go.RowKit

set_option maxRecDepth 100000 in
set_option maxHeartbeats 4000000 in
theorem among_go (kind n status items flags uid size : Int) (tag text : ByteArray) (A : Option Addr) (m k : Nat) (q1 q2 q4 q16 : Bool) (e1 : (bits BinOp.and IntKind.i64 items 1 == 0) = q1) (e2 : (bits BinOp.and IntKind.i64 items 2 == 0) = q2) (e4 : (bits BinOp.and IntKind.i64 items 4 == 0) = q4) (e16 : (bits BinOp.and IntKind.i64 items 16 == 0) = q16) (w : World) :
    Calls Tryd.prog 34 #[.agg #[.int .i64 kind, .int .u32 n, .string tag, .int .i64 status, .string text, .int .i64 items, .int .u8 flags, .int .u32 uid, .int .u32 size, .slice A m k]] w fun e w' => e = .returned (.agg #[.int .i64 kind, .int .u32 n, .string tag, .int .i64 status, .string text, .int .i64 items, .int .u8 (if q1 = true then 0 else flags), .int .u32 (if q2 = true then 0 else uid), .int .u32 (if q4 = true then 0 else size), if q16 = true then .slice none 0 0 else .slice A m k]) ∧ Below w.heap.size w w' := by
  cases q1 <;> cases q2 <;> cases q4 <;> cases q16
  all_goals
    go_enter Tryd.func34, Tryd.ntmps34
    go_wp2_with fail
    refine bodyPost_ret (v := .agg #[.int .i64 kind, .int .u32 n, .string tag, .int .i64 status, .string text, .int .i64 items, _, _, _, _]) (by simp [results, Tryd.results34, go_sem]) rfl ⟨rfl, ?_⟩
    repeat (first | exact Below.refl _ _ | refine Below.setCell ?_ (by simp) _ | refine Below.alloc ?_ (by simp) _)
end Go.Proofs.YtcpbgceplgcblaaDoor

namespace Go.Proofs.YtcpbgceplgcblaaDoor
open Go.RowKit

set_option maxRecDepth 100000 in
set_option maxHeartbeats 1000000 in
theorem count1_go (kind n status items flags uid size : Int) (tag text : ByteArray) (A : Option Addr) (m k : Nat) (w : World) :
    Calls Tryd.prog 53 #[.agg #[.int .i64 kind, .int .u32 n, .string tag, .int .i64 status, .string text, .int .i64 items, .int .u8 flags, .int .u32 uid, .int .u32 size, .slice A m k]] w fun e w' => e = .returned (.agg #[.int .i64 kind, .int .u32 n, .string ⟨#[]⟩, .int .i64 0, .string ⟨#[]⟩, .int .i64 0, .int .u8 0, .int .u32 0, .int .u32 0, .slice none 0 0]) ∧ Below w.heap.size w w' := by
  go_enter Tryd.func53, Tryd.ntmps53
  go_wp2_with fail
  refine bodyPost_ret (v := .agg #[.int .i64 kind, .int .u32 n, .string ⟨#[]⟩, .int .i64 0, .string ⟨#[]⟩, .int .i64 0, .int .u8 0, .int .u32 0, .int .u32 0, .slice none 0 0]) (by simp [results, Tryd.results53, go_sem]) rfl ⟨rfl, ?_⟩
  repeat (first | exact Below.refl _ _ | refine Below.setCell ?_ (by simp) _ | refine Below.alloc ?_ (by simp) _)

set_option maxRecDepth 100000 in
set_option maxHeartbeats 1000000 in
theorem text1_go (kind n status items flags uid size : Int) (tag text : ByteArray) (A : Option Addr) (m k : Nat) (w : World) :
    Calls Tryd.prog 63 #[.agg #[.int .i64 kind, .int .u32 n, .string tag, .int .i64 status, .string text, .int .i64 items, .int .u8 flags, .int .u32 uid, .int .u32 size, .slice A m k]] w fun e w' => e = .returned (.agg #[.int .i64 kind, .int .u32 0, .string ⟨#[]⟩, .int .i64 0, .string text, .int .i64 0, .int .u8 0, .int .u32 0, .int .u32 0, .slice none 0 0]) ∧ Below w.heap.size w w' := by
  go_enter Tryd.func63, Tryd.ntmps63
  go_wp2_with fail
  refine bodyPost_ret (v := .agg #[.int .i64 kind, .int .u32 0, .string ⟨#[]⟩, .int .i64 0, .string text, .int .i64 0, .int .u8 0, .int .u32 0, .int .u32 0, .slice none 0 0]) (by simp [results, Tryd.results63, go_sem]) rfl ⟨rfl, ?_⟩
  repeat (first | exact Below.refl _ _ | refine Below.setCell ?_ (by simp) _ | refine Below.alloc ?_ (by simp) _)

set_option maxRecDepth 100000 in
set_option maxHeartbeats 1000000 in
theorem flags1_go (kind n status items flags uid size : Int) (tag text : ByteArray) (A : Option Addr) (m k : Nat) (w : World) :
    Calls Tryd.prog 61 #[.agg #[.int .i64 kind, .int .u32 n, .string tag, .int .i64 status, .string text, .int .i64 items, .int .u8 flags, .int .u32 uid, .int .u32 size, .slice A m k]] w fun e w' => e = .returned (.agg #[.int .i64 kind, .int .u32 0, .string ⟨#[]⟩, .int .i64 0, .string ⟨#[]⟩, .int .i64 0, .int .u8 0, .int .u32 0, .int .u32 0, .slice none 0 0]) ∧ Below w.heap.size w w' := by
  go_enter Tryd.func61, Tryd.ntmps61
  go_wp2_with fail
  refine bodyPost_ret (v := .agg #[.int .i64 kind, .int .u32 0, .string ⟨#[]⟩, .int .i64 0, .string ⟨#[]⟩, .int .i64 0, .int .u8 0, .int .u32 0, .int .u32 0, .slice none 0 0]) (by simp [results, Tryd.results61, go_sem]) rfl ⟨rfl, ?_⟩
  repeat (first | exact Below.refl _ _ | refine Below.setCell ?_ (by simp) _ | refine Below.alloc ?_ (by simp) _)

set_option maxRecDepth 100000 in
set_option maxHeartbeats 1000000 in
theorem reply_go (tag text : ByteArray) (status : Int) (w : World) :
    Calls Tryd.prog 22 #[.string tag, .int .i64 status, .string text] w fun e w' => e = .returned (.agg #[.int .i64 9, .int .u32 0, .string tag, .int .i64 status, .string text, .int .i64 0, .int .u8 0, .int .u32 0, .int .u32 0, .slice none 0 0]) ∧ Below w.heap.size w w' := by
  go_enter Tryd.func22, Tryd.ntmps22
  go_wp2_with fail
  refine bodyPost_ret (v := .agg #[.int .i64 9, .int .u32 0, .string tag, .int .i64 status, .string text, .int .i64 0, .int .u8 0, .int .u32 0, .int .u32 0, .slice none 0 0]) (by simp [results, Tryd.results22, go_sem]) rfl ⟨rfl, ?_⟩
  repeat (first | exact Below.refl _ _ | refine Below.setCell ?_ (by simp) _ | refine Below.alloc ?_ (by simp) _)

set_option maxRecDepth 100000 in
set_option maxHeartbeats 1000000 in
theorem count_go (kind : Int) (n : Nat) (hn : n ≤ 4294967295) (w : World) :
    Calls Tryd.prog 21 #[.int .i64 kind, .int .i64 (n : Int)] w fun e w' => e = .returned (.agg #[.int .i64 kind, .int .u32 (n : Int), .string ⟨#[]⟩, .int .i64 0, .string ⟨#[]⟩, .int .i64 0, .int .u8 0, .int .u32 0, .int .u32 0, .slice none 0 0]) ∧ Below w.heap.size w w' := by
  have hcv : IntKind.u32.wrap (n : Int) = (n : Int) := by simp [IntKind.wrap, IntKind.bits, IntKind.signed]; omega
  go_enter Tryd.func21, Tryd.ntmps21
  go_wp2_with fail
  refine bodyPost_ret (v := .agg #[.int .i64 kind, .int .u32 (n : Int), .string ⟨#[]⟩, .int .i64 0, .string ⟨#[]⟩, .int .i64 0, .int .u8 0, .int .u32 0, .int .u32 0, .slice none 0 0]) (by simp [results, Tryd.results21, go_sem]) rfl ⟨rfl, ?_⟩
  repeat (first | exact Below.refl _ _ | refine Below.setCell ?_ (by simp) _ | refine Below.alloc ?_ (by simp) _)

set_option maxRecDepth 100000 in
set_option maxHeartbeats 1000000 in
theorem tagged1_go (kind n status items flags uid size : Int) (tag text : ByteArray) (A : Option Addr) (m k : Nat) (w : World) :
    Calls Tryd.prog 49 #[.agg #[.int .i64 kind, .int .u32 n, .string tag, .int .i64 status, .string text, .int .i64 items, .int .u8 flags, .int .u32 uid, .int .u32 size, .slice A m k]] w fun e w' => e = .returned (.agg #[.int .i64 9, .int .u32 0, .string tag, .int .i64 status, .string text, .int .i64 0, .int .u8 0, .int .u32 0, .int .u32 0, .slice none 0 0]) ∧ Below w.heap.size w w' := by
  have RP := Lib.hid (fun W => reply_go tag text status W)
  go_enter Tryd.func49, Tryd.ntmps49
  go_wp2_with fail
  refine (RP.out _).mono ?_
  rintro e w1 ⟨rfl, hb⟩
  obtain ⟨hc, hf⟩ := bcell hb
  have hz : w.heap.size + 1 < w1.heap.size := by have := hb.size; simp at this; omega
  obtain ⟨-, hr, hB, -⟩ := two_new hb
  have HR := Lib.hid hr
  have HB := Lib.hid hB
  clear hr hB hb
  go_wp2_with fail
  change bodyPost _ _ _ _ _ (stR w1 (w.heap.size + 1) (.int .i64 9) (.int .u32 0) (.string tag) (.int .i64 status) (.string text) (.int .i64 0) (.int .u8 0) (.int .u32 0) (.int .u32 0) (.slice none 0 0))
  have hq := stR_block HR.out (.int .i64 9) (.int .u32 0) (.string tag) (.int .i64 status) (.string text) (.int .i64 0) (.int .u8 0) (.int .u32 0) (.int .u32 0) (.slice none 0 0)
  have HG := Lib.hid (stR_grown w1 (w.heap.size + 1) (.int .i64 9) (.int .u32 0) (.string tag) (.int .i64 status) (.string text) (.int .i64 0) (.int .u8 0) (.int .u32 0) (.int .u32 0) (.slice none 0 0))
  generalize stR w1 (w.heap.size + 1) (.int .i64 9) (.int .u32 0) (.string tag) (.int .i64 status) (.string text) (.int .i64 0) (.int .u8 0) (.int .u32 0) (.int .u32 0) (.slice none 0 0) = w9 at *
  obtain ⟨q0, q1', q2', q3, q4', q5, q6, q7, q8, q9⟩ := cells10 hq
  clear hq hc hf
  refine bodyPost_ret (v := .agg #[.int .i64 9, .int .u32 0, .string tag, .int .i64 status, .string text, .int .i64 0, .int .u8 0, .int .u32 0, .int .u32 0, .slice none 0 0]) (by simp [results, Tryd.results49, go_sem, q0, q1', q2', q3, q4', q5, q6, q7, q8, q9]) rfl ⟨rfl, ?_⟩
  exact below_st HB.out HG.out (by omega)
end Go.Proofs.YtcpbgceplgcblaaDoor

namespace Go.Proofs.YtcpbgceplgcblaaDoor
open Go.RowKit

/-- What a function returns that copies some fields of a response. -/
def OwnPost (r : RI) (w : World) (e : Ending) (w' : World) : Prop := ∃ A' k', e = .returned (rsV r A' k') ∧ ByAt w.heap.size w' A' k' r.body ∧ Below w.heap.size w w'
theorem among_sl (kind n status items flags uid size : Int) (tag text : ByteArray) (A : Option Addr) (m k : Nat) (q1 q2 q4 q16 : Bool) (e1 : (bits BinOp.and IntKind.i64 items 1 == 0) = q1) (e2 : (bits BinOp.and IntKind.i64 items 2 == 0) = q2) (e4 : (bits BinOp.and IntKind.i64 items 4 == 0) = q4) (e16 : (bits BinOp.and IntKind.i64 items 16 == 0) = q16)
    (fl ui si : Int) (A' : Option Addr) (m' k' : Nat) (H : Hid (fl = (if q1 = true then 0 else flags) ∧ ui = (if q2 = true then 0 else uid) ∧ si = (if q4 = true then 0 else size) ∧ A' = (if q16 = true then none else A) ∧ m' = (if q16 = true then 0 else m) ∧ k' = (if q16 = true then 0 else k))) (w : World) :
    Calls Tryd.prog 34 #[.agg #[.int .i64 kind, .int .u32 n, .string tag, .int .i64 status, .string text, .int .i64 items, .int .u8 flags, .int .u32 uid, .int .u32 size, .slice A m k]] w fun e w' => e = .returned (.agg #[.int .i64 kind, .int .u32 n, .string tag, .int .i64 status, .string text, .int .i64 items, .int .u8 fl, .int .u32 ui, .int .u32 si, .slice A' m' k']) ∧ Below w.heap.size w w' := by
  obtain ⟨rfl, rfl, rfl, rfl, rfl, rfl⟩ := H.out
  exact (among_go kind n status items flags uid size tag text A m k q1 q2 q4 q16 e1 e2 e4 e16 w).mono fun e w' ⟨he, hb⟩ => ⟨by rw [he]; cases q16 <;> rfl, hb⟩

set_option maxRecDepth 100000 in
set_option maxHeartbeats 1000000 in
theorem fetched1_go (kind n status items flags uid size : Int) (tag text : ByteArray) (A : Option Addr) (m k : Nat) (q1 q2 q4 q16 : Bool) (e1 : (bits BinOp.and IntKind.i64 items 1 == 0) = q1) (e2 : (bits BinOp.and IntKind.i64 items 2 == 0) = q2) (e4 : (bits BinOp.and IntKind.i64 items 4 == 0) = q4) (e16 : (bits BinOp.and IntKind.i64 items 16 == 0) = q16)
    (fl ui si : Int) (A' : Option Addr) (m' k' : Nat) (H : Hid (fl = (if q1 = true then 0 else flags) ∧ ui = (if q2 = true then 0 else uid) ∧ si = (if q4 = true then 0 else size) ∧ A' = (if q16 = true then none else A) ∧ m' = (if q16 = true then 0 else m) ∧ k' = (if q16 = true then 0 else k))) (w : World) :
    Calls Tryd.prog 44 #[.agg #[.int .i64 kind, .int .u32 n, .string tag, .int .i64 status, .string text, .int .i64 items, .int .u8 flags, .int .u32 uid, .int .u32 size, .slice A m k]] w fun e w' => e = .returned (.agg #[.int .i64 kind, .int .u32 n, .string ⟨#[]⟩, .int .i64 0, .string ⟨#[]⟩, .int .i64 items, .int .u8 fl, .int .u32 ui, .int .u32 si, .slice A' m' k']) ∧ Below w.heap.size w w' := by
  have AM := Lib.hid (fun W => among_sl kind n 0 items flags uid size ⟨#[]⟩ ⟨#[]⟩ A m k q1 q2 q4 q16 e1 e2 e4 e16 fl ui si A' m' k' H W)
  clear H e1 e2 e4 e16
  go_enter Tryd.func44, Tryd.ntmps44
  go_wp2_with fail
  refine (AM.out _).mono ?_
  rintro e w1 ⟨rfl, hb⟩
  obtain ⟨hc, hf⟩ := bcell hb
  have hz : w.heap.size + 1 < w1.heap.size := by have := hb.size; simp at this; omega
  obtain ⟨-, hr, hB, -⟩ := two_new hb
  have HR := Lib.hid hr
  have HB := Lib.hid hB
  clear hr hB hb
  go_wp2_with fail
  change bodyPost _ _ _ _ _ (stR w1 (w.heap.size + 1) (.int .i64 kind) (.int .u32 n) (.string ⟨#[]⟩) (.int .i64 0) (.string ⟨#[]⟩) (.int .i64 items) (.int .u8 fl) (.int .u32 ui) (.int .u32 si) (.slice A' m' k'))
  have hq := stR_block HR.out (.int .i64 kind) (.int .u32 n) (.string ⟨#[]⟩) (.int .i64 0) (.string ⟨#[]⟩) (.int .i64 items) (.int .u8 fl) (.int .u32 ui) (.int .u32 si) (.slice A' m' k')
  have HG := Lib.hid (stR_grown w1 (w.heap.size + 1) (.int .i64 kind) (.int .u32 n) (.string ⟨#[]⟩) (.int .i64 0) (.string ⟨#[]⟩) (.int .i64 items) (.int .u8 fl) (.int .u32 ui) (.int .u32 si) (.slice A' m' k'))
  generalize stR w1 (w.heap.size + 1) (.int .i64 kind) (.int .u32 n) (.string ⟨#[]⟩) (.int .i64 0) (.string ⟨#[]⟩) (.int .i64 items) (.int .u8 fl) (.int .u32 ui) (.int .u32 si) (.slice A' m' k') = w9 at *
  obtain ⟨q0, q1', q2', q3, q4', q5, q6, q7, q8, q9⟩ := cells10 hq
  clear hq hc hf
  refine bodyPost_ret (v := .agg #[.int .i64 kind, .int .u32 n, .string ⟨#[]⟩, .int .i64 0, .string ⟨#[]⟩, .int .i64 items, .int .u8 fl, .int .u32 ui, .int .u32 si, .slice A' m' k']) (by simp [results, Tryd.results44, go_sem, q0, q1', q2', q3, q4', q5, q6, q7, q8, q9]) rfl ⟨rfl, ?_⟩
  exact below_st HB.out HG.out (by omega)

theorem own_of {q16 : Bool} {r : RI} {A : Option Addr} {k : Nat} {w w' : World} (hA : ByAt w.heap.size w A k r.body) (hb : Below w.heap.size w w') :
    ByAt w.heap.size w' (if q16 = true then none else A) (if q16 = true then 0 else k) (if (!q16) = true then r.body else []) := by
  cases q16
  · exact hA.below hb
  · exact ByAt.nil _ _ _ _
theorem among_any (r : RI) (A : Option Addr) (k : Nat) (w : World) (hA : ByAt w.heap.size w A k r.body) :
    Calls Tryd.prog 34 #[rsV r A k] w (OwnPost (rsAmong r) w) := by
  refine (among_sl r.kind r.n r.status r.items r.flags r.uid r.size ⟨r.tag.toArray⟩ ⟨r.text.toArray⟩ A r.body.length k _ _ _ _ rfl rfl rfl rfl _ _ _ _ _ _ (Lib.hid ⟨rfl, rfl, rfl, rfl, rfl, rfl⟩) w).mono fun e w' ⟨he, hb⟩ => ⟨_, _, ?_, own_of hA hb, hb⟩
  rw [he]
  unfold rsV rsAmong rsBit bne
  generalize (bits BinOp.and IntKind.i64 r.items 1 == 0) = q1
  generalize (bits BinOp.and IntKind.i64 r.items 2 == 0) = q2
  generalize (bits BinOp.and IntKind.i64 r.items 4 == 0) = q4
  generalize (bits BinOp.and IntKind.i64 r.items 16 == 0) = q16
  cases q1 <;> cases q2 <;> cases q4 <;> cases q16 <;> rfl
theorem fetched1_any (r : RI) (A : Option Addr) (k : Nat) (w : World) (hA : ByAt w.heap.size w A k r.body) :
    Calls Tryd.prog 44 #[rsV r A k] w (OwnPost (rsAmong ⟨r.kind, r.n, [], 0, [], r.items, r.flags, r.uid, r.size, r.body⟩) w) := by
  refine (fetched1_go r.kind r.n r.status r.items r.flags r.uid r.size ⟨r.tag.toArray⟩ ⟨r.text.toArray⟩ A r.body.length k _ _ _ _ rfl rfl rfl rfl _ _ _ _ _ _ (Lib.hid ⟨rfl, rfl, rfl, rfl, rfl, rfl⟩) w).mono fun e w' ⟨he, hb⟩ => ⟨_, _, ?_, own_of hA hb, hb⟩
  rw [he]
  unfold rsV rsAmong rsBit bne
  generalize (bits BinOp.and IntKind.i64 r.items 1 == 0) = q1
  generalize (bits BinOp.and IntKind.i64 r.items 2 == 0) = q2
  generalize (bits BinOp.and IntKind.i64 r.items 4 == 0) = q4
  generalize (bits BinOp.and IntKind.i64 r.items 16 == 0) = q16
  cases q1 <;> cases q2 <;> cases q4 <;> cases q16 <;> rfl

/-- The function 'own' of a kind. -/
def ownF (k : Int) : FuncId := if k = 1 ∨ k = 2 ∨ k = 3 then 53 else if k = 4 then 44 else if k = 5 then 61 else if k = 9 then 49 else 63
theorem own_any9 (r : RI) (A : Option Addr) (k : Nat) (w : World) (hA : ByAt w.heap.size w A k r.body) :
    Calls Tryd.prog (ownF r.kind) #[rsV r A k] w (OwnPost (rsOwn r) w) := by
  unfold ownF rsOwn
  split
  · exact (count1_go r.kind r.n r.status r.items r.flags r.uid r.size ⟨r.tag.toArray⟩ ⟨r.text.toArray⟩ A r.body.length k w).mono fun e w' ⟨he, hb⟩ => ⟨none, 0, he, ByAt.nil _ _ _ _, hb⟩
  split
  · exact fetched1_any r A k w hA
  split
  · exact (flags1_go r.kind r.n r.status r.items r.flags r.uid r.size ⟨r.tag.toArray⟩ ⟨r.text.toArray⟩ A r.body.length k w).mono fun e w' ⟨he, hb⟩ => ⟨none, 0, he, ByAt.nil _ _ _ _, hb⟩
  split
  · exact (tagged1_go r.kind r.n r.status r.items r.flags r.uid r.size ⟨r.tag.toArray⟩ ⟨r.text.toArray⟩ A r.body.length k w).mono fun e w' ⟨he, hb⟩ => ⟨none, 0, he, ByAt.nil _ _ _ _, hb⟩
  · exact (text1_go r.kind r.n r.status r.items r.flags r.uid r.size ⟨r.tag.toArray⟩ ⟨r.text.toArray⟩ A r.body.length k w).mono fun e w' ⟨he, hb⟩ => ⟨none, 0, he, ByAt.nil _ _ _ _, hb⟩
end Go.Proofs.YtcpbgceplgcblaaDoor

namespace Go.Proofs.YtcpbgceplgcblaaDoor
open Go.RowKit

set_option maxRecDepth 100000 in
set_option maxHeartbeats 1000000 in
theorem clone9_any (A : Option Addr) (c n : Nat) (l : List UInt8) (hn : l.length = n) (hl : n ≤ 1000000) (w : World) (hS : ByAt w.heap.size w A c l) :
    Calls Tryd.prog 35 #[.slice A n c] w fun e w' => ∃ A' c', e = .returned (.slice A' n c') ∧ w'.ownsRow w.heap.size 5 1 (.slice A' n c') n (flatL encB l) ∧ Below w.heap.size w w' := by
  obtain ⟨i0, hi, hz0, hz1, hz2⟩ := info_parts infoByte
  have q22 := fun (w : World) (a : Option Addr) (l c : Nat) => run_eql_slice_nil (P := Tryd.prog) w 24 5 a l c Tryd.underlying24
  rcases A with _ | ad
  · obtain rfl : l = [] := by
      rcases hS.lies with h | ⟨b, off, hA, _⟩
      · exact h
      · cases hA
    obtain rfl : n = 0 := hn.symm
    clear hS hl hn
    go_enter Tryd.func35, Tryd.ntmps35
    go_wp2_with fail
    go_ret
    exact ⟨none, 0, rfl, World.ownsRow_nil _ _ _ _, Below.refl _ _⟩
  · have HS := Lib.hid (hS.here.below (below_al w (.cells #[] 5)))
    have HOE := Lib.hid (own_empty (sz := 1) (heap_alloc_new w (.cells #[] 5)) (Nat.le_refl _))
    have H63 := Lib.hid (show 0 + l.length ≤ maxLen by unfold maxLen; omega)
    have HBY := Lib.hid (show (0 + l.length) * 1 ≤ 140737488355328 by omega)
    have HB0 := Lib.hid (below_al w (.cells #[] 5))
    have HSZ := Lib.hid HB0.out.size
    subst hn
    clear hS hl
    go_enter Tryd.func35, Tryd.ntmps35
    go_wp2_with (at_builtin; refine wpList_append_sl _ rfl _ _ 24 rfl w.heap.size 5 i0 _ 1 Tryd.underlying24 hi hz0 hz1 hz2 rfl (by decide) _ 0 [] rfl HOE.out (some ad) l c rfl encB_len HS.out.sl (one_flatB l) H63.out HBY.out HSZ.out ?_; intro v2 w2 hown2 hg2)
    rw [Nat.zero_add, List.nil_append] at hown2
    obtain ⟨A2, c2, rfl⟩ := own_any hown2
    have HB2 := Lib.hid (HB0.out.grown hg2 HSZ.out (fun kk hkk => (HOE.out.lt kk hkk).1))
    have HO := Lib.hid hown2
    clear hown2 hg2
    go_ret
    exact ⟨A2, c2, rfl, HO.out, HB2.out⟩

theorem own_past9 {base b n : Nat} {T : TypeId} {v : Value} {xs : List Value} {W W' : World} (h : W.ownsRow base T 1 v n xs) (hg : W.grownBy W' (some b)) (hlt : b < base) : W'.ownsRow base T 1 v n xs := by
  refine ⟨h.1, ?_⟩
  rcases h.2 with h1 | ⟨g, cap, cur, h1, h2, h3, h4⟩
  · exact .inl h1
  · exact .inr ⟨g, cap, cur, h1, h2, (hg.block g (Array.getElem?_eq_some_iff.1 h3).1 (fun e => by have := Option.some.inj e; omega)).trans h3, h4⟩
theorem own_base9 {base b n : Nat} {T : TypeId} {v : Value} {xs : List Value} {W : World} (h : W.ownsRow base T 1 v n xs) (hlt : b ≤ base) : W.ownsRow b T 1 v n xs := by
  refine ⟨h.1, ?_⟩
  rcases h.2 with h1 | ⟨g, cap, cur, h1, h2, h3, h4⟩
  · exact .inl h1
  · exact .inr ⟨g, cap, cur, h1, Nat.le_trans hlt h2, h3, h4⟩
/-- The items of the response of a FETCH. -/
def msgI (items : Int) : Int := bits BinOp.and IntKind.i64 (if rsBit items 8 = true then bits BinOp.or IntKind.i64 items 16 else items) 23
/-- The response of a FETCH for a message. -/
def rsMsg (seq : Nat) (items : Int) (uid flags : Nat) (body : List UInt8) : RI := rsAmong ⟨4, seq, [], 0, [], msgI items, flags, uid, body.length, body⟩
/-- What Message returns. -/
def MsPost (r : RI) (w : World) (e : Ending) (w' : World) : Prop := ∃ A' c', e = .returned (rsV r A' c') ∧ w'.ownsRow w.heap.size 5 1 (.slice A' r.body.length c') r.body.length (flatL encB r.body) ∧ Below w.heap.size w w'

set_option maxRecDepth 100000 in
set_option maxHeartbeats 4000000 in
theorem message9_any (seq : Nat) (hseq : seq ≤ 4294967295) (items : Int) (uid flags : Nat) (body : List UInt8) (hb : body.length ≤ 1000) (A : Option Addr) (c : Nat) (w : World) (hA : ByAt w.heap.size w A c body) :
    Calls Tryd.prog 23 #[.int .i64 (seq : Int), .int .i64 items, .agg #[.int .u32 (uid : Int), .int .u8 (flags : Int), .slice A body.length c]] w (MsPost (rsMsg seq items uid flags body) w) := by
  have B0 := below_2box w (.cells #[.int .u32 (uid : Int), .int .u8 (flags : Int), .slice A body.length c] 45) (.cells #[.int .i64 0, .int .u32 0, .string ⟨#[]⟩, .int .i64 0, .string ⟨#[]⟩, .int .i64 0, .int .u8 0, .int .u32 0, .int .u32 0, .slice none 0 0] 26)
  have hx := heap_alloc_new (w.alloc (.cells #[.int .u32 (uid : Int), .int .u8 (flags : Int), .slice A body.length c] 45)) (.cells #[.int .i64 0, .int .u32 0, .string ⟨#[]⟩, .int .i64 0, .string ⟨#[]⟩, .int .i64 0, .int .u8 0, .int .u32 0, .int .u32 0, .slice none 0 0] 26)
  rw [World.size_alloc] at hx
  have AM := among_any ⟨4, seq, [], 0, [], msgI items, flags, uid, body.length, body⟩ A c ((w.alloc (.cells #[.int .u32 (uid : Int), .int .u8 (flags : Int), .slice A body.length c] 45)).alloc (.cells #[.int .i64 0, .int .u32 0, .string ⟨#[]⟩, .int .i64 0, .string ⟨#[]⟩, .int .i64 0, .int .u8 0, .int .u32 0, .int .u32 0, .slice none 0 0] 26)) (hA.below B0).here
  have HR : Hid (rsMsg seq items uid flags body = rsAmong ⟨4, seq, [], 0, [], msgI items, flags, uid, body.length, body⟩) := Lib.hid rfl
  have hbl : (rsAmong ⟨4, seq, [], 0, [], msgI items, flags, uid, body.length, body⟩).body.length ≤ 1000 := by
    show (if _ then body else []).length ≤ 1000
    split
    · exact hb
    · simp
  have h1 : IntKind.u32.wrap (seq : Int) = (seq : Int) := by simp [IntKind.wrap, IntKind.bits, IntKind.signed]; omega
  have h2 : IntKind.u32.wrap (body.length : Int) = (body.length : Int) := by simp [IntKind.wrap, IntKind.bits, IntKind.signed]; omega
  rw [HR.out]
  generalize rsAmong ⟨4, seq, [], 0, [], msgI items, flags, uid, body.length, body⟩ = r at *
  unfold rsV at AM
  have HQ : Hid (msgI items = bits BinOp.and IntKind.i64 (if rsBit items 8 = true then bits BinOp.or IntKind.i64 items 16 else items) 23) := Lib.hid rfl
  have hq8 : (bits BinOp.and IntKind.i64 items 8 != 0) = rsBit items 8 := rfl
  rw [HQ.out] at AM
  generalize rsBit items 8 = q at *
  have HBL := Lib.hid hbl
  have HB0 := Lib.hid B0
  have HX := Lib.hid hx
  clear HR HQ hA hbl B0 hx hb
  obtain ⟨n, hn⟩ : ∃ n, body.length = n := ⟨_, rfl⟩
  rw [hn] at AM HB0 h2 HX
  rw [hn]
  clear hn
  cases q
  all_goals
    simp only [if_true, if_false, Bool.false_eq_true] at AM
    have AM := Lib.hid AM
    go_enter Tryd.func23, Tryd.ntmps23
    go_wp2_with fail
    refine AM.out.mono ?_
    rintro e w2 ⟨A5, k5, rfl, hby, hb⟩
    obtain ⟨-, hz, hB, hzz⟩ := two_new hb
    have HZ := Lib.hid hz
    have HB2 := Lib.hid hB
    have HZZ := Lib.hid hzz
    have R3 := Lib.hid (RsBox.new w2 r A5 k5)
    have HA3 := Lib.hid (below_al w2 (.cells #[.int .i64 r.kind, .int .u32 (r.n : Int), .string ⟨r.tag.toArray⟩, .int .i64 r.status, .string ⟨r.text.toArray⟩, .int .i64 r.items, .int .u8 (r.flags : Int), .int .u32 (r.uid : Int), .int .u32 (r.size : Int), .slice A5 r.body.length k5] 26))
    obtain ⟨nb, hnb⟩ : ∃ n, r.body.length = n := ⟨_, rfl⟩
    have CL := Lib.hid (clone9_any A5 k5 nb r.body hnb (by have := HBL.out; omega) _ ((hby.here.grow HA3.out).here))
    have HNB := Lib.hid hnb
    unfold rsV
    rw [hnb] at HA3 CL
    rw [hnb]
    clear hb hz hB hzz hby hnb AM
    go_wp2_with fail
    refine CL.out.mono ?_
    rintro e w4 ⟨A6, k6, rfl, ho, hb⟩
    have HO := Lib.hid ho
    have HB4 := Lib.hid (below_next HB2.out (below_next HA3.out hb))
    have R4 := Lib.hid (R3.out.below (by rw [← HNB.out] at hb; exact hb))
    have HZ4 := Lib.hid ((below_next HA3.out hb).block (w.heap.size + 1) (by have := HZZ.out; omega) |>.trans HZ.out)
    obtain ⟨x0, x1, x2, x3, x4, x5, x6, x7, x8, x9⟩ := R4.out.cells
    have f9 := Joins.unfrozen_of_block R4.out 9
    have HSZ4 := Lib.hid (show w2.heap.size + 1 ≤ w4.heap.size by have := hb.size; rw [World.size_alloc] at this; exact this)
    clear ho hb CL
    go_upto_region 5 with (fail)
    have hq5 := Joins.block_setCell (i := 9) R4.out (.slice A6 nb k6)
    have HG5 := Lib.hid (show w4.grownBy (w4.setCell ⟨w2.heap.size, 9, none⟩ (.slice A6 nb k6)) (some w2.heap.size) from grown_setCell _ _ _ _)
    have hz5 := (HG5.out.block (w.heap.size + 1) (by have := HZZ.out; have := HSZ4.out; omega) (fun e => by have := Option.some.inj e; have := HZZ.out; omega)).trans HZ4.out
    have HB5 := Lib.hid (HB4.out.grown HG5.out HB4.out.size (fun j hj => by cases hj; have := HZZ.out; omega))
    have HO5 := Lib.hid (own_past9 HO.out HG5.out (by simp))
    clear x0 x1 x2 x3 x4 x5 x6 x7 x8 x9 f9
    generalize w4.setCell ⟨w2.heap.size, 9, none⟩ (.slice A6 nb k6) = w5 at *
    obtain ⟨x0, x1, x2, x3, x4, x5, x6, x7, x8, x9⟩ := cells10 (show w5.heap[w2.heap.size]? = some (.cells #[.int .i64 r.kind, .int .u32 (r.n : Int), .string ⟨r.tag.toArray⟩, .int .i64 r.status, .string ⟨r.text.toArray⟩, .int .i64 r.items, .int .u8 (r.flags : Int), .int .u32 (r.uid : Int), .int .u32 (r.size : Int), .slice A6 nb k6] 26 (0, 0)) from hq5)
    obtain ⟨d0, d1, d2, d3, d4, d5, d6, d7, d8, d9⟩ := cells10 hz5
    have g0 := Joins.unfrozen_of_block hz5 0
    have g1 := Joins.unfrozen_of_block hz5 1
    have g2 := Joins.unfrozen_of_block hz5 2
    have g3 := Joins.unfrozen_of_block hz5 3
    have g4 := Joins.unfrozen_of_block hz5 4
    have g5 := Joins.unfrozen_of_block hz5 5
    have g6 := Joins.unfrozen_of_block hz5 6
    have g7 := Joins.unfrozen_of_block hz5 7
    have g8 := Joins.unfrozen_of_block hz5 8
    have g9 := Joins.unfrozen_of_block hz5 9
    have HZ5 := Lib.hid hz5
    clear hq5 hz5
    go_wp2_with fail
    change bodyPost _ _ _ _ _ (stR w5 (w.heap.size + 1) (.int .i64 r.kind) (.int .u32 (r.n : Int)) (.string ⟨r.tag.toArray⟩) (.int .i64 r.status) (.string ⟨r.text.toArray⟩) (.int .i64 r.items) (.int .u8 (r.flags : Int)) (.int .u32 (r.uid : Int)) (.int .u32 (r.size : Int)) (.slice A6 nb k6))
    have hq := stR_block HZ5.out (.int .i64 r.kind) (.int .u32 (r.n : Int)) (.string ⟨r.tag.toArray⟩) (.int .i64 r.status) (.string ⟨r.text.toArray⟩) (.int .i64 r.items) (.int .u8 (r.flags : Int)) (.int .u32 (r.uid : Int)) (.int .u32 (r.size : Int)) (.slice A6 nb k6)
    have HG := Lib.hid (stR_grown w5 (w.heap.size + 1) (.int .i64 r.kind) (.int .u32 (r.n : Int)) (.string ⟨r.tag.toArray⟩) (.int .i64 r.status) (.string ⟨r.text.toArray⟩) (.int .i64 r.items) (.int .u8 (r.flags : Int)) (.int .u32 (r.uid : Int)) (.int .u32 (r.size : Int)) (.slice A6 nb k6))
    have HB9 := Lib.hid (below_st HB5.out HG.out (by omega))
    have HO9 := Lib.hid (own_past9 HO5.out HG.out (by have := HZZ.out; simp; omega))
    generalize stR w5 (w.heap.size + 1) (.int .i64 r.kind) (.int .u32 (r.n : Int)) (.string ⟨r.tag.toArray⟩) (.int .i64 r.status) (.string ⟨r.text.toArray⟩) (.int .i64 r.items) (.int .u8 (r.flags : Int)) (.int .u32 (r.uid : Int)) (.int .u32 (r.size : Int)) (.slice A6 nb k6) = w9 at *
    clear x0 x1 x2 x3 x4 x5 x6 x7 x8 x9 d0 d1 d2 d3 d4 d5 d6 d7 d8 d9 g0 g1 g2 g3 g4 g5 g6 g7 g8 g9
    obtain ⟨q0, q1', q2', q3, q4', q5, q6, q7, q8, q9⟩ := cells10 hq
    refine bodyPost_ret (v := .agg #[.int .i64 r.kind, .int .u32 (r.n : Int), .string ⟨r.tag.toArray⟩, .int .i64 r.status, .string ⟨r.text.toArray⟩, .int .i64 r.items, .int .u8 (r.flags : Int), .int .u32 (r.uid : Int), .int .u32 (r.size : Int), .slice A6 nb k6]) (by simp [results, Tryd.results23, go_sem, q0, q1', q2', q3, q4', q5, q6, q7, q8, q9]) rfl ?_
    exact ⟨A6, k6, by rw [← HNB.out]; rfl, by rw [HNB.out]; exact own_base9 HO9.out (by have := HZZ.out; simp; omega), HB9.out⟩
end Go.Proofs.YtcpbgceplgcblaaDoor
