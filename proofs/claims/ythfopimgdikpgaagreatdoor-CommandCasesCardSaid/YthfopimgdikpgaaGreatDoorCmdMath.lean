/- Layer 7 in plain words: verbs, items, modes; the syntax of commands over their tokens. No walk, no program. -/
import Derived.Test.YthfopimgdikpgaaGreatDoorGe
import Derived.Test.YthfopimgdikpgaaGreatDoorGt
import Derived.Test.YthfopimgdikpgaaGreatDoorGs
import Derived.Test.YthfopimgdikpgaaGreatDoorGa
namespace Go.Proofs.YthfopimgdikpgaaGreatDoor
open Go.RowKit

/-- The fields of a command. -/
structure Cmd where
  tag : List UInt8
  kind : Nat
  mbox : List UInt8
  set : List R
  items : Nat
  mode : Nat
  silent : Bool
  flags : Nat
  data : List UInt8
def cmd0 (tag : List UInt8) : Cmd := ⟨tag, 0, [], [], 0, 0, false, 0, []⟩

def flagsO (ps : List (List UInt8)) : Option Nat := if ps = [] then some 0 else namesO ps
/-- The bytes of a mailbox that is a word. -/
def mbN (n : Nat) : Bool := atomN n || n == 93
def mbB (l : List UInt8) : Bool := l.all fun c => mbN c.toNat

/-! What takes the tokens, in the program's order. -/

def takeO (k : Nat) : List Tok → Option (List UInt8 × List Tok)
  | t :: r => if t.kind = k then some (t.text, r) else none
  | [] => none
def seesT (k : Nat) : List Tok → Bool
  | t :: _ => decide (t.kind = k)
  | [] => false
def moreO : List Tok → Option (List (List UInt8) × List Tok)
  | s :: t :: r => if s.kind = 1 then (if t.kind = 4 then (moreO r).map fun p => (t.text :: p.1, p.2) else none) else some ([], s :: t :: r)
  | [s] => if s.kind = 1 then none else some ([], [s])
  | [] => none
def wordsO (ts : List Tok) : Option (List (List UInt8) × List Tok) := (takeO 4 ts).bind fun p => (moreO p.2).map fun q => (p.1 :: q.1, q.2)
def listO (ts : List Tok) : Option (List (List UInt8) × List Tok) :=
  (takeO 2 ts).bind fun p => if seesT 3 p.2 = true then (takeO 3 p.2).map fun q => ([], q.2) else (wordsO p.2).bind fun q => (takeO 3 q.2).map fun z => (q.1, z.2)
def mboxO (ts : List Tok) : Option (List UInt8 × List Tok) :=
  match ts with
  | t :: r => if t.kind = 4 then (if allL mbN t.text = true ∧ t.text.length ≤ 65536 then some (t.text, r) else none) else if (t.kind = 5 ∨ t.kind = 6) ∧ t.text.length ≤ 65536 then some (t.text, r) else none
  | [] => none
def setO (ts : List Tok) : Option (List R × List Tok) := (takeO 4 ts).bind fun p => if (parseP p.1).2 = true then some ((parseP p.1).1, p.2) else none
def selO (c : Cmd) (ts : List Tok) : Option (Cmd × List Tok) := (takeO 1 ts).bind fun p => (mboxO p.2).map fun q => ({ c with mbox := q.1 }, q.2)
def appO (c : Cmd) (ts : List Tok) : Option (Cmd × List Tok) :=
  (takeO 1 ts).bind fun p => (mboxO p.2).bind fun q => (takeO 1 q.2).bind fun z =>
    if seesT 2 z.2 = true then (listO z.2).bind fun f => (flagsO f.1).bind fun g => (takeO 1 f.2).bind fun y => (takeO 6 y.2).map fun d => ({ c with mbox := q.1, flags := g, data := d.1 }, d.2)
    else (takeO 6 z.2).map fun d => ({ c with mbox := q.1, data := d.1 }, d.2)
def fetO (c : Cmd) (ts : List Tok) : Option (Cmd × List Tok) :=
  (takeO 1 ts).bind fun p => (setO p.2).bind fun q => (takeO 1 q.2).bind fun z =>
    if seesT 2 z.2 = true then (listO z.2).bind fun f => (itemsO f.1).map fun i => ({ c with set := q.1, items := i }, f.2)
    else (takeO 4 z.2).bind fun d => (itemsO [d.1]).map fun i => ({ c with set := q.1, items := i }, d.2)
def stoO (c : Cmd) (ts : List Tok) : Option (Cmd × List Tok) :=
  (takeO 1 ts).bind fun p => (setO p.2).bind fun q => (takeO 1 q.2).bind fun z => (takeO 4 z.2).bind fun m => (modeL m.1).bind fun mo => (takeO 1 m.2).bind fun y =>
    if seesT 2 y.2 = true then (listO y.2).bind fun f => (flagsO f.1).map fun g => ({ c with set := q.1, mode := mo.1, silent := mo.2, flags := g }, f.2)
    else (wordsO y.2).bind fun f => (flagsO f.1).map fun g => ({ c with set := q.1, mode := mo.1, silent := mo.2, flags := g }, f.2)
def restC (k : Nat) (c : Cmd) (ts : List Tok) : Option (Cmd × List Tok) :=
  if k = 5 then selO c ts else if k = 6 then appO c ts else if k = 7 then fetO c ts else if k = 8 then stoO c ts else some (c, ts)
def bodyO (tag : List UInt8) (ts : List Tok) : Option Cmd :=
  (takeO 4 ts).bind fun p => if kindL p.1 = 0 then none else (restC (kindL p.1) { cmd0 tag with kind := kindL p.1 } p.2).bind fun q => (takeO 0 q.2).map fun _ => q.1
/-- What Parse answers. -/
inductive IsCmd (l : List UInt8) : Cmd → Bool → Prop
  | noTag : tagO l = none → IsCmd l (cmd0 []) false
  | bad {t : List UInt8} {ts : List Tok} {x : Int} : tagO l = some t → IsToks (l.drop (t.length + 1)) ts x → x ≠ -1 ∨ bodyO t ts = none → IsCmd l (cmd0 t) false
  | good {t : List UInt8} {ts : List Tok} {c : Cmd} : tagO l = some t → IsToks (l.drop (t.length + 1)) ts (-1) → bodyO t ts = some c → IsCmd l c true
theorem IsCmd.det {l : List UInt8} {c d : Cmd} {a b : Bool} (h : IsCmd l c a) (h1 : IsCmd l d b) : c = d ∧ a = b := by
  cases h with
  | noTag e => cases h1 with
    | noTag _ => exact ⟨rfl, rfl⟩
    | bad e1 _ _ => rw [e] at e1; cases e1
    | good e1 _ _ => rw [e] at e1; cases e1
  | bad e i o => cases h1 with
    | noTag e1 => rw [e] at e1; cases e1
    | bad e1 _ _ => rw [e] at e1; cases e1; exact ⟨rfl, rfl⟩
    | good e1 i1 o1 =>
      rw [e] at e1; cases e1
      obtain ⟨rfl, rfl⟩ := i.det i1
      rcases o with o | o
      · exact absurd rfl o
      · rw [o] at o1; cases o1
  | good e i o => cases h1 with
    | noTag e1 => rw [e] at e1; cases e1
    | bad e1 i1 o1 =>
      rw [e] at e1; cases e1
      obtain ⟨rfl, rfl⟩ := i.det i1
      rcases o1 with o1 | o1
      · exact absurd rfl o1
      · rw [o] at o1; cases o1
    | good e1 i1 o1 =>
      rw [e] at e1; cases e1
      obtain ⟨rfl, _⟩ := i.det i1
      rw [o] at o1; cases o1; exact ⟨rfl, rfl⟩

/-- A token before End: its kind, its text's length; a word. -/
def TokOk (x : Tok) : Prop := 1 ≤ x.kind ∧ x.kind ≤ 6 ∧ x.text.length ≤ 9000 ∧ (x.kind = 4 → x.text ≠ [] ∧ (32 : UInt8) ∉ x.text)
/-- Tokens that end with End, which stands nowhere else. -/
def Fin (ts : List Tok) : Prop := ∃ l t, ts = l ++ [t] ∧ t.kind = 0 ∧ t.text = [] ∧ (∀ x ∈ l, TokOk x) ∧ l.length ≤ 9000
theorem Fin.ne {ts : List Tok} (h : Fin ts) : ts ≠ [] := by
  obtain ⟨l, t, rfl, _⟩ := h
  simp
theorem Fin.len {ts : List Tok} (h : Fin ts) : ts.length ≤ 9001 := by
  obtain ⟨l, t, rfl, _, _, _, hl⟩ := h
  simp; omega
theorem Fin.tail {t : Tok} {r : List Tok} (h : Fin (t :: r)) (hk : t.kind ≠ 0) : Fin r := by
  obtain ⟨l, e, he, h0, h1, ha, hl⟩ := h
  cases l with
  | nil =>
    simp at he
    obtain ⟨rfl, _⟩ := he
    exact absurd h0 hk
  | cons a l =>
    simp at he
    obtain ⟨_, rfl⟩ := he
    exact ⟨l, e, rfl, h0, h1, fun x hx => ha x (by simp [hx]), by simp at hl; omega⟩
theorem Fin.last {t : Tok} {r : List Tok} (h : Fin (t :: r)) (hk : t.kind = 0) : r = [] := by
  obtain ⟨l, e, he, h0, h1, ha, _⟩ := h
  cases l with
  | nil => simp at he; exact he.2
  | cons a l =>
    simp at he
    obtain ⟨rfl, _⟩ := he
    have := (ha t (by simp)).1
    omega
theorem Fin.mem {ts : List Tok} (h : Fin ts) {t : Tok} (ht : t ∈ ts) : t.kind ≤ 6 ∧ t.text.length ≤ 9000 ∧ (t.kind = 4 → t.text ≠ [] ∧ (32 : UInt8) ∉ t.text) := by
  obtain ⟨l, e, rfl, h0, h1, ha, _⟩ := h
  rcases List.mem_append.1 ht with ht | ht
  · exact (ha t ht).2
  · obtain rfl := List.mem_singleton.1 ht
    rw [h0, h1]
    exact ⟨by omega, by simp, fun h => by omega⟩
theorem Fin.kind {t : Tok} {r : List Tok} (h : Fin (t :: r)) : t.kind ≤ 6 := (h.mem (by simp)).1
theorem Fin.drop {p r : List Tok} (h : Fin (p ++ r)) (hr : r ≠ []) : Fin r := by
  induction p with
  | nil => exact h
  | cons a p ih =>
    by_cases h0 : a.kind = 0
    · have := h.last h0
      exact absurd (List.append_eq_nil_iff.1 this).2 hr
    · exact ih (h.tail h0)
theorem oneR_word {r x : List UInt8} {n : Nat} (h : oneR r = some (4, x, n)) : x ≠ [] ∧ x.all wordC = true := by
  unfold oneR at h
  split at h
  · cases h
  · rename_i c hc
    split at h
    · cases h
    · split at h
      · rename_i h4
        simp at h
        obtain ⟨rfl, rfl⟩ := h
        refine ⟨fun e => ?_, List.all_takeWhile⟩
        have := word_pos hc h4
        rw [e] at this
        simp at this
      · rename_i hn4
        split at h
        · simp at h
        · split at h
          · simp at h
          · simp at h; omega
theorem wordC_sp {x : List UInt8} (h : x.all wordC = true) : (32 : UInt8) ∉ x := by
  intro hm
  have := List.all_eq_true.1 h _ hm
  revert this
  decide
theorem TRun.words {l : List UInt8} {a b : Nat} {ts : List Tok} (h : TRun l a ts b) : ∀ t ∈ ts, t.kind = 4 → t.text ≠ [] ∧ t.text.all wordC = true := by
  induction h with
  | nil a => intro t ht; cases ht
  | cons h0 _ ih =>
    intro t ht
    rcases List.mem_cons.1 ht with rfl | ht
    · intro h4
      simp only at h4
      subst h4
      exact oneR_word h0
    · exact ih t ht
theorem Fin.toks {l : List UInt8} {ts : List Tok} (hl : l.length ≤ 9000) (h : IsToks l ts (-1)) : Fin ts := by
  rcases h with ⟨us, hu, rfl, _⟩ | ⟨us, k, _, _, _, _, e⟩
  · have hle := hu.le (Nat.zero_le _)
    refine ⟨us, _, rfl, rfl, rfl, fun x hx => ?_, by omega⟩
    have h1 := hu.each (Nat.zero_le _) x hx
    exact ⟨h1.1, h1.2.1, by omega, fun h4 => ⟨(hu.words x hx h4).1, wordC_sp (hu.words x hx h4).2⟩⟩
  · omega
theorem Fin.take {k : Nat} {ts r : List Tok} {x : List UInt8} (h : Fin ts) (hk : k ≠ 0) (ht : takeO k ts = some (x, r)) : Fin r := by
  rcases ts with _ | ⟨t, q⟩
  · cases ht
  · by_cases e : t.kind = k
    · simp [takeO, e] at ht
      obtain ⟨_, rfl⟩ := ht
      exact h.tail (by omega)
    · simp [takeO, e] at ht
end Go.Proofs.YthfopimgdikpgaaGreatDoor
