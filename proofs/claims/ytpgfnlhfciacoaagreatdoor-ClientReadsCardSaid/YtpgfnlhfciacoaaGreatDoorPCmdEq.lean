import Derived.Test.YtpgfnlhfciacoaaGreatDoorPGe
namespace Go.Proofs.YtpgfnlhfciacoaaGreatDoor
open Go.RowKit
def ZC : List Tok → Option (List (List UInt8))
 | [] => none
 | [t] => if t.kind = 4 then some [t.text] else none
 | t :: s :: r => if t.kind = 4 ∧ s.kind = 1 then (ZC r).map (t.text :: ·) else none
def lnames (m : List Tok) : Option (List (List UInt8)) :=
 match m with
 | [] => none
 | o :: q => match q.getLast? with
   | none => none
   | some c => if o.kind = 2 ∧ c.kind = 3 then (if q.dropLast = [] then some [] else ZC q.dropLast) else none
def mboxR (t : Tok) : Bool := if t.kind = 4 then mbB t.text else decide (t.kind = 5 ∨ t.kind = 6)
def appR (c : Cmd) (l : List Tok) : Option Cmd :=
 match l.getLast? with
 | none => none
 | some d => if d.kind ≠ 6 then none else if l.dropLast = [] then some { c with data := d.text } else
   match l.dropLast.getLast? with
   | none => none
   | some s => (lnames l.dropLast.dropLast).bind fun ns => if s.kind = 1 then (ZE ns).map fun g => { c with flags := g, data := d.text } else none
def fetR (c : Cmd) (l : List Tok) : Option Cmd := (if l.length = 1 then ZC l else lnames l).bind fun ns => (itemsO ns).map fun i => { c with items := i }
def stoR (c : Cmd) (l : List Tok) : Option Cmd :=
 match l with
 | m :: s :: q => if m.kind = 4 ∧ s.kind = 1 ∧ q ≠ [] then (modeL m.text).bind fun mo => (((lnames q).bind ZE).or ((ZC q).bind ZE)).map fun g => { c with mode := mo.1, silent := mo.2, flags := g } else none
 | _ => none
def YM (tag : List UInt8) (l : List Tok) : Option Cmd :=
 match l with
 | [] => none
 | t :: r => if t.kind ≠ 4 ∨ YC t.text = 0 then none else if YC t.text ≤ 4 then (if r = [] then some { cmd0 tag with kind := YC t.text } else none) else
   match r with
   | s :: m :: q => if s.kind ≠ 1 then none else
     if YC t.text ≤ 6 then
      if mboxR m = false then none else
      if YC t.text = 5 then (if q = [] then some { cmd0 tag with kind := YC t.text, mbox := m.text } else none) else
      match q with
      | z :: d => if z.kind = 1 then appR { cmd0 tag with kind := YC t.text, mbox := m.text } d else none
      | [] => none
     else
      if m.kind ≠ 4 ∨ (YP m.text).2 = false then none else
      match q with
      | z :: d => if z.kind = 1 ∧ d ≠ [] then (if YC t.text = 7 then fetR { cmd0 tag with kind := YC t.text, set := (YP m.text).1 } d else stoR { cmd0 tag with kind := YC t.text, set := (YP m.text).1 } d) else none
      | [] => none
   | _ => none
def snames : List Tok → Option (List (List UInt8))
 | [] => some []
 | [_] => none
 | s :: t :: r => if s.kind = 1 ∧ t.kind = 4 then (snames r).map (t.text :: ·) else none
theorem wnames_cons (t : Tok) : ∀ (p : List Tok), ZC (t :: p) = if t.kind = 4 then (snames p).map (t.text :: ·) else none := by
 suffices h : ∀ (n : Nat) (p : List Tok), p.length ≤ n → ∀ t : Tok, ZC (t :: p) = if t.kind = 4 then (snames p).map (t.text :: ·) else none from fun p => h p.length p (Nat.le_refl _) t
 intro n
 induction n with
 | zero =>
   intro p hp t
   obtain rfl : p = [] := List.length_eq_zero_iff.1 (by omega)
   simp [ZC, snames]
 | succ n ih =>
   intro p hp t
   rcases p with _ | ⟨s, _ | ⟨u, r⟩⟩
   · simp [ZC, snames]
   · simp [ZC, snames]
   · simp only [ZC, snames]
     rw [ih r (by simp at hp; omega) u]
     by_cases h4 : t.kind = 4 <;> by_cases h1 : s.kind = 1 <;> by_cases hu : u.kind = 4 <;> simp [h4, h1, hu]
theorem moreO_some : ∀ {ts : List Tok} {ns : List (List UInt8)} {r : List Tok}, moreO ts = some (ns, r) → ∃ p, ts = p ++ r ∧ snames p = some ns ∧ r ≠ [] ∧ YT 1 r = false := by
 suffices h : ∀ (n : Nat) (ts : List Tok), ts.length ≤ n → ∀ ns r, moreO ts = some (ns, r) → ∃ p, ts = p ++ r ∧ snames p = some ns ∧ r ≠ [] ∧ YT 1 r = false from fun {ts ns r} => h ts.length ts (Nat.le_refl _) ns r
 intro n
 induction n with
 | zero =>
   intro ts hp ns r h
   obtain rfl : ts = [] := List.length_eq_zero_iff.1 (by omega)
   simp [moreO] at h
 | succ n ih =>
   intro ts hp ns r h
   rcases ts with _ | ⟨s, _ | ⟨u, q⟩⟩
   · simp [moreO] at h
   · simp only [moreO] at h
     split at h
     · cases h
     · rename_i h1
       simp at h
       obtain ⟨rfl, rfl⟩ := h
       exact ⟨[], rfl, rfl, by simp, by simp [YT, h1]⟩
   · simp only [moreO] at h
     split at h
     · rename_i h1
       split at h
       · rename_i h4
         cases hm : moreO q with
         | none => rw [hm] at h; cases h
         | some z =>
           obtain ⟨ns', r'⟩ := z
           rw [hm] at h
           simp at h
           obtain ⟨rfl, rfl⟩ := h
           obtain ⟨p, rfl, e2, e3, e4⟩ := ih q (by simp at hp; omega) _ _ hm
           exact ⟨s :: u :: p, rfl, by simp [snames, h1, h4, e2], e3, e4⟩
       · cases h
     · rename_i h1
       simp at h
       obtain ⟨rfl, rfl⟩ := h
       exact ⟨[], rfl, rfl, by simp, by simp [YT, h1]⟩
theorem moreO_mk {r : List Tok} (hr : r ≠ []) (h1 : YT 1 r = false) : ∀ {p : List Tok} {ns : List (List UInt8)}, snames p = some ns → moreO (p ++ r) = some (ns, r) := by
 suffices h : ∀ (n : Nat) (p : List Tok), p.length ≤ n → ∀ ns, snames p = some ns → moreO (p ++ r) = some (ns, r) from fun {p ns} => h p.length p (Nat.le_refl _) ns
 intro n
 induction n with
 | zero =>
   intro p hp ns h
   obtain rfl : p = [] := List.length_eq_zero_iff.1 (by omega)
   simp [snames] at h
   subst h
   rcases r with _ | ⟨s, _ | ⟨u, q⟩⟩
   · exact absurd rfl hr
   · simp [YT] at h1; simp [moreO, h1]
   · simp [YT] at h1; simp [moreO, h1]
 | succ n ih =>
   intro p hp ns h
   rcases p with _ | ⟨s, _ | ⟨u, q⟩⟩
   · simp [snames] at h
     subst h
     rcases r with _ | ⟨s, _ | ⟨u, q⟩⟩
     · exact absurd rfl hr
     · simp [YT] at h1; simp [moreO, h1]
     · simp [YT] at h1; simp [moreO, h1]
   · simp [snames] at h
   · simp only [snames] at h
     split at h
     · rename_i hh
       cases hq : snames q with
       | none => rw [hq] at h; cases h
       | some ms =>
         rw [hq] at h
         simp at h
         subst h
         show moreO (s :: u :: (q ++ r)) = _
         simp only [moreO]
         rw [if_pos hh.1, if_pos hh.2, ih q (by simp at hp; omega) ms hq]
         rfl
     · cases h
theorem wordsO_some {ts r : List Tok} {ns : List (List UInt8)} (h : QB ts = some (ns, r)) : ∃ p, ts = p ++ r ∧ ZC p = some ns ∧ r ≠ [] ∧ YT 1 r = false := by
 rcases ts with _ | ⟨t, ts⟩
 · simp [QB, YG] at h
 · by_cases h4 : t.kind = 4
   · simp only [QB, YG, if_pos h4, Option.bind_some, Option.map_eq_some_iff] at h
     obtain ⟨⟨ms, r'⟩, hm, he⟩ := h
     simp at he
     obtain ⟨rfl, rfl⟩ := he
     obtain ⟨p, rfl, e2, e3, e4⟩ := moreO_some hm
     exact ⟨t :: p, rfl, by rw [wnames_cons, if_pos h4, e2]; rfl, e3, e4⟩
   · simp [QB, YG, h4] at h
theorem wordsO_mk {p r : List Tok} {ns : List (List UInt8)} (h : ZC p = some ns) (hr : r ≠ []) (h1 : YT 1 r = false) : QB (p ++ r) = some (ns, r) := by
 rcases p with _ | ⟨t, p⟩
 · simp [ZC] at h
 · rw [wnames_cons] at h
   split at h
   · rename_i h4
     cases hs : snames p with
     | none => rw [hs] at h; cases h
     | some ms =>
       rw [hs] at h
       simp at h
       subst h
       simp only [QB, List.cons_append, YG, if_pos h4, Option.bind_some, moreO_mk hr h1 hs]
       rfl
   · cases h
theorem wnames_ne {p : List Tok} {ns : List (List UInt8)} (h : ZC p = some ns) : ns ≠ [] := by
 rcases p with _ | ⟨t, p⟩
 · simp [ZC] at h
 · rw [wnames_cons] at h
   split at h
   · cases hs : snames p with
     | none => rw [hs] at h; cases h
     | some ms => rw [hs] at h; simp at h; subst h; simp
   · cases h
theorem wnames_head {p : List Tok} {ns : List (List UInt8)} (h : ZC p = some ns) : YT 4 p = true := by
 rcases p with _ | ⟨t, p⟩
 · simp [ZC] at h
 · rw [wnames_cons] at h
   split at h
   · rename_i h4; simp [YT, h4]
   · cases h
theorem seesT_app {k : Nat} {p r : List Tok} (h : YT k p = true) : YT k (p ++ r) = true := by
 rcases p with _ | ⟨t, p⟩
 · simp [YT] at h
 · exact h
theorem seesT_one {j k : Nat} {p : List Tok} (h : YT j p = true) (hk : j ≠ k) : YT k p = false := by
 rcases p with _ | ⟨t, p⟩
 · rfl
 · simp [YT] at h ⊢; omega
theorem lnames_mk {o c : Tok} {q : List Tok} (ho : o.kind = 2) (hc : c.kind = 3) : lnames (o :: (q ++ [c])) = if q = [] then some [] else ZC q := by
 simp [lnames, ho, hc]
theorem lnames_some {m : List Tok} {ns : List (List UInt8)} (h : lnames m = some ns) : ∃ o c q, m = o :: (q ++ [c]) ∧ o.kind = 2 ∧ c.kind = 3 ∧ (if q = [] then some [] else ZC q) = some ns := by
 rcases m with _ | ⟨o, q⟩
 · simp [lnames] at h
 · rcases q.eq_nil_or_concat with rfl | ⟨q, c, rfl⟩
   · simp [lnames] at h
   · simp [lnames] at h
     exact ⟨o, c, q, by simp, h.1.1, h.1.2, by simpa using h.2⟩
theorem listO_some {ts r : List Tok} {ns : List (List UInt8)} (h : QF ts = some (ns, r)) : ∃ m, ts = m ++ r ∧ lnames m = some ns := by
 rcases ts with _ | ⟨o, ts⟩
 · simp [QF, YG] at h
 · by_cases h2 : o.kind = 2
   · simp only [QF, YG, if_pos h2, Option.bind_some] at h
     split at h
     · rcases ts with _ | ⟨c, ts⟩
       · simp at h
       · rename_i h3
         simp [YT] at h3
         simp [h3] at h
         obtain ⟨rfl, rfl⟩ := h
         exact ⟨[o, c], rfl, by simpa using lnames_mk (q := []) h2 h3⟩
     · cases hw : QB ts with
       | none => rw [hw] at h; cases h
       | some z =>
         obtain ⟨ms, r'⟩ := z
         rw [hw] at h
         obtain ⟨p, rfl, e2, e3, e4⟩ := wordsO_some hw
         rcases r' with _ | ⟨c, r'⟩
         · exact absurd rfl e3
         · by_cases h3 : c.kind = 3
           · simp [h3] at h
             obtain ⟨rfl, rfl⟩ := h
             refine ⟨o :: (p ++ [c]), by simp, ?_⟩
             rw [lnames_mk h2 h3, if_neg (fun e => by subst e; simp [ZC] at e2), e2]
           · simp [h3] at h
   · simp [QF, YG, h2] at h
theorem listO_mk {m r : List Tok} {ns : List (List UInt8)} (h : lnames m = some ns) : QF (m ++ r) = some (ns, r) := by
 obtain ⟨o, c, q, rfl, h2, h3, he⟩ := lnames_some h
 simp only [QF, List.cons_append, YG, if_pos h2, Option.bind_some, List.append_assoc, List.nil_append]
 by_cases hq : q = []
 · subst hq
   simp at he
   subst he
   simp [YT, h3]
 · rw [if_neg hq] at he
   rw [if_neg (by rw [seesT_one (seesT_app (wnames_head he)) (by omega)]; decide), wordsO_mk he (by simp) (by simp [YT, h3])]
   simp [h3]
theorem last0 {l p r : List Tok} {e y : Tok} (hl : ∀ t ∈ l, 1 ≤ t.kind ∧ t.kind ≤ 6) (h : l ++ [e] = p ++ y :: r) (hy : y.kind = 0) : r = [] ∧ l = p ∧ e = y := by
 rcases r.eq_nil_or_concat with rfl | ⟨r, z, rfl⟩
 · have h1 := List.append_inj' h rfl
   simp at h1
   exact ⟨rfl, h1.1, h1.2⟩
 · have h2 : l ++ [e] = (p ++ y :: r) ++ [z] := by rw [h]; simp
   have h1 := List.append_inj' h2 rfl
   have := (hl y (by rw [h1.1]; simp)).1
   omega
theorem QE {k : Nat} {ts r : List Tok} {x : List UInt8} (h : YG k ts = some (x, r)) : ∃ t, ts = t :: r ∧ t.kind = k ∧ x = t.text := by
 rcases ts with _ | ⟨t, q⟩
 · cases h
 · by_cases hk : t.kind = k
   · simp [YG, hk] at h
     obtain ⟨rfl, rfl⟩ := h
     exact ⟨t, rfl, hk, rfl⟩
   · simp [YG, hk] at h
theorem takeO_mk {k : Nat} {t : Tok} {r : List Tok} (h : t.kind = k) : YG k (t :: r) = some (t.text, r) := by simp [YG, h]
theorem lnames_sees {m r : List Tok} {ns : List (List UInt8)} (h : lnames m = some ns) : YT 2 (m ++ r) = true := by
 obtain ⟨o, c, q, rfl, h2, _, _⟩ := lnames_some h
 simp [YT, h2]
def endO (o : Option (Cmd × List Tok)) : Option Cmd := o.bind fun q => (YG 0 q.2).map fun _ => q.1
theorem endO_some {o : Option (Cmd × List Tok)} {c : Cmd} (h : endO o = some c) : ∃ t r, o = some (c, t :: r) ∧ t.kind = 0 := by
 rcases o with _ | ⟨d, ts⟩
 · cases h
 · simp [endO] at h
   obtain ⟨⟨a, b, hab⟩, rfl⟩ := h
   obtain ⟨t, rfl, h0, _⟩ := QE hab
   exact ⟨t, _, rfl, h0⟩
def appT (c : Cmd) (ts : List Tok) : Option (Cmd × List Tok) :=
 if YT 2 ts = true then (QF ts).bind fun f => (ZE f.1).bind fun g => (YG 1 f.2).bind fun y => (YG 6 y.2).map fun d => ({ c with flags := g, data := d.1 }, d.2)
 else (YG 6 ts).map fun d => ({ c with data := d.1 }, d.2)
def fetT (c : Cmd) (ts : List Tok) : Option (Cmd × List Tok) :=
 if YT 2 ts = true then (QF ts).bind fun f => (itemsO f.1).map fun i => ({ c with items := i }, f.2)
 else (YG 4 ts).bind fun d => (itemsO [d.1]).map fun i => ({ c with items := i }, d.2)
def stoT (c : Cmd) (ts : List Tok) : Option (Cmd × List Tok) :=
 (YG 4 ts).bind fun m => (modeL m.1).bind fun mo => (YG 1 m.2).bind fun y =>
  if YT 2 y.2 = true then (QF y.2).bind fun f => (ZE f.1).map fun g => ({ c with mode := mo.1, silent := mo.2, flags := g }, f.2)
  else (QB y.2).bind fun f => (ZE f.1).map fun g => ({ c with mode := mo.1, silent := mo.2, flags := g }, f.2)
section
variable {l : List Tok} {e : Tok} (hl : ∀ t ∈ l, 1 ≤ t.kind ∧ t.kind ≤ 6) (he : e.kind = 0)
include hl he
theorem app_is (c : Cmd) : endO (appT c (l ++ [e])) = appR c l := by
 refine Option.ext fun c' => ⟨fun h => ?_, fun h => ?_⟩
 · obtain ⟨y, r, ho, hy⟩ := endO_some h
   unfold appT at ho
   split at ho
   · simp only [Option.bind_eq_some_iff, Option.map_eq_some_iff] at ho
     obtain ⟨⟨ns, r1⟩, h1, g, h2, ⟨x2, r2⟩, h3, ⟨x3, r3⟩, h4, h5⟩ := ho
     simp at h5
     obtain ⟨rfl, rfl⟩ := h5
     obtain ⟨m, e1, hm⟩ := listO_some h1
     obtain ⟨s, rfl, hs, _⟩ := QE h3
     obtain ⟨x, rfl, hx, rfl⟩ := QE h4
     have e2 : l ++ [e] = (m ++ [s, x]) ++ y :: r := by rw [e1]; simp
     obtain ⟨_, rfl, _⟩ := last0 hl e2 hy
     have e3 : m ++ [s, x] = (m ++ [s]) ++ [x] := by simp
     rw [e3]
     simp [appR, hx, hm, hs, h2]
   · simp only [Option.map_eq_some_iff] at ho
     obtain ⟨⟨x3, r3⟩, h4, h5⟩ := ho
     simp at h5
     obtain ⟨rfl, rfl⟩ := h5
     obtain ⟨x, e1, hx, rfl⟩ := QE h4
     obtain ⟨_, rfl, _⟩ := last0 (p := [x]) hl e1 hy
     simp [appR, hx]
 · rcases l.eq_nil_or_concat with rfl | ⟨l, x, rfl⟩
   · simp [appR] at h
   · simp only [List.concat_eq_append] at *
     by_cases hx : x.kind = 6
     · rcases l.eq_nil_or_concat with rfl | ⟨m, s, rfl⟩
       · simp [appR, hx] at h
         subst h
         simp [appT, YT, YG, hx, endO, he]
       · simp [appR, hx, Option.bind_eq_some_iff] at h
         obtain ⟨ns, hm, hs, g, hg, rfl⟩ := h
         have hsee := lnames_sees (r := [s, x, e]) hm
         have hlo := listO_mk (r := [s, x, e]) hm
         simp [appT, hsee, hlo, hg, YG, hs, hx, endO, he]
     · simp [appR, hx] at h
theorem fet_is (c : Cmd) (hne : l ≠ []) : endO (fetT c (l ++ [e])) = fetR c l := by
 refine Option.ext fun c' => ⟨fun h => ?_, fun h => ?_⟩
 · obtain ⟨y, r, ho, hy⟩ := endO_some h
   unfold fetT at ho
   split at ho
   · simp only [Option.bind_eq_some_iff, Option.map_eq_some_iff] at ho
     obtain ⟨⟨ns, r1⟩, h1, g, h2, h5⟩ := ho
     simp at h5
     obtain ⟨rfl, rfl⟩ := h5
     obtain ⟨m, e1, hm⟩ := listO_some h1
     obtain ⟨_, rfl, _⟩ := last0 hl e1 hy
     have hln : l.length ≠ 1 := by
      obtain ⟨o, z, q, rfl, _⟩ := lnames_some hm
      simp
     simp [fetR, hln, hm, h2]
   · simp only [Option.bind_eq_some_iff, Option.map_eq_some_iff] at ho
     obtain ⟨⟨x3, r3⟩, h4, i, h3, h5⟩ := ho
     simp at h5
     obtain ⟨rfl, rfl⟩ := h5
     obtain ⟨x, e1, hx, rfl⟩ := QE h4
     obtain ⟨_, rfl, _⟩ := last0 (p := [x]) hl e1 hy
     simp [fetR, ZC, hx, h3]
 · unfold fetR at h
   simp only [Option.bind_eq_some_iff, Option.map_eq_some_iff] at h
   obtain ⟨ns, h1, i, h2, rfl⟩ := h
   split at h1
   · rename_i hln
     rcases l with _ | ⟨x, _ | ⟨y, q⟩⟩
     · simp at hln
     · simp [ZC] at h1
       obtain ⟨hx, rfl⟩ := h1
       simp [fetT, YT, YG, hx, endO, he, h2]
     · simp at hln
   · have hsee := lnames_sees (r := [e]) h1
     have hlo := listO_mk (r := [e]) h1
     simp [fetT, hsee, hlo, h2, endO, YG, he]
theorem sto_is (c : Cmd) : endO (stoT c (l ++ [e])) = stoR c l := by
 refine Option.ext fun c' => ⟨fun h => ?_, fun h => ?_⟩
 · obtain ⟨y, r, ho, hy⟩ := endO_some h
   unfold stoT at ho
   simp only [Option.bind_eq_some_iff] at ho
   obtain ⟨⟨x1, r1⟩, h1, mo, h2, ⟨x2, r2⟩, h3, ho⟩ := ho
   obtain ⟨m, e1, hm, rfl⟩ := QE h1
   obtain ⟨s, e2, hs, _⟩ := QE h3
   simp only at e2 h2
   subst e2
   split at ho
   · simp only [Option.bind_eq_some_iff, Option.map_eq_some_iff] at ho
     obtain ⟨⟨ns, r4⟩, h4, g, h5, h6⟩ := ho
     simp at h6
     obtain ⟨rfl, rfl⟩ := h6
     obtain ⟨q, e3, hq⟩ := listO_some h4
     have e4 : l ++ [e] = (m :: s :: q) ++ y :: r := by rw [e1, e3]; simp
     obtain ⟨_, rfl, _⟩ := last0 hl e4 hy
     have hq0 : q ≠ [] := by rintro rfl; simp [lnames] at hq
     simp [stoR, hm, hs, hq0, h2, hq, h5]
   · simp only [Option.bind_eq_some_iff, Option.map_eq_some_iff] at ho
     obtain ⟨⟨ns, r4⟩, h4, g, h5, h6⟩ := ho
     simp at h6
     obtain ⟨rfl, rfl⟩ := h6
     obtain ⟨q, e3, hq, _⟩ := wordsO_some h4
     have e4 : l ++ [e] = (m :: s :: q) ++ y :: r := by rw [e1, e3]; simp
     obtain ⟨_, rfl, _⟩ := last0 hl e4 hy
     have hq0 : q ≠ [] := by rintro rfl; simp [ZC] at hq
     have hln : lnames q = none := by
      cases hl2 : lnames q with
      | none => rfl
      | some z =>
        have h7 := wnames_head hq
        have h8 := lnames_sees (r := []) hl2
        rw [List.append_nil] at h8
        rw [seesT_one h7 (by omega)] at h8
        cases h8
     simp [stoR, hm, hs, hq0, h2, hq, hln, h5]
 · rcases l with _ | ⟨m, _ | ⟨s, q⟩⟩
   · simp [stoR] at h
   · simp [stoR] at h
   · simp only [stoR] at h
     split at h
     · rename_i hh
       obtain ⟨hm, hs, hq⟩ := hh
       simp only [Option.bind_eq_some_iff, Option.map_eq_some_iff] at h
       obtain ⟨mo, h1, g, h2, rfl⟩ := h
       cases hln : (lnames q).bind ZE with
       | some g' =>
         rw [hln] at h2
         simp at h2
         subst h2
         simp only [Option.bind_eq_some_iff] at hln
         obtain ⟨ns, h3, h4⟩ := hln
         have hsee := lnames_sees (r := [e]) h3
         have hlo := listO_mk (r := [e]) h3
         simp [stoT, YG, hm, hs, h1, hsee, hlo, h4, endO, he]
       | none =>
         rw [hln] at h2
         simp [Option.bind_eq_some_iff] at h2
         obtain ⟨ns, h3, h4⟩ := h2
         have hsee := seesT_one (k := 2) (seesT_app (r := [e]) (wnames_head h3)) (by omega)
         have hlo := wordsO_mk (r := [e]) h3 (by simp) (by simp [YT, he])
         simp [stoT, YG, hm, hs, h1, hsee, hlo, h4, endO, he]
     · cases h
end
theorem mbox_is {m : Tok} {r : List Tok} (h4 : m.kind = 4 → m.text ≠ []) (hlen : m.text.length ≤ 65536) : mboxO (m :: r) = if mboxR m = true then some (m.text, r) else none := by
 unfold mboxO mboxR allL mbB
 by_cases hk : m.kind = 4
 · have := h4 hk
   have h0 : m.text.isEmpty = false := by simpa using this
   simp [hk, hlen, h0]
 · simp [hk, hlen]
theorem body_is {l : List Tok} {e : Tok} (hl : ∀ t ∈ l, 1 ≤ t.kind ∧ t.kind ≤ 6) (h4 : ∀ t ∈ l, t.kind = 4 → t.text ≠ []) (hlen : ∀ t ∈ l, t.text.length ≤ 65536) (he : e.kind = 0) (tag : List UInt8) :
 bodyO tag (l ++ [e]) = YM tag l := by
 have tE : ∀ k r, k ≠ 0 → YG k (e :: r) = none := fun k r hk => by simp [YG, he, Ne.symm hk]
 have z0 : ∀ {x : Tok} {r : List Tok}, 1 ≤ x.kind → YG 0 (x :: r) = none := fun h => by simp [YG]; omega
 rcases l with _ | ⟨t, r⟩
 · simp [bodyO, YM, tE]
 · have hb : bodyO tag (t :: r ++ [e]) = if t.kind = 4 then (if YC t.text = 0 then none else endO (restC (YC t.text) { cmd0 tag with kind := YC t.text } (r ++ [e]))) else none := by
    by_cases ht : t.kind = 4 <;> simp [bodyO, YG, ht, endO]
   rw [hb]
   by_cases ht : t.kind = 4
   rotate_left
   · simp [YM, ht]
   rw [if_pos ht]
   by_cases hk0 : YC t.text = 0
   · simp [YM, hk0]
   rw [if_neg hk0]
   generalize hk : YC t.text = k at *
   by_cases hk4 : k ≤ 4
   · have hr : restC k { cmd0 tag with kind := k } (r ++ [e]) = some ({ cmd0 tag with kind := k }, r ++ [e]) := by
      unfold restC
      rw [if_neg (by omega), if_neg (by omega), if_neg (by omega), if_neg (by omega)]
     rw [hr]
     simp only [YM, hk, ht, hk4]
     rcases r with _ | ⟨x, r⟩
     · simp [endO, YG, he, hk0]
     · simp [endO, z0 (hl x (by simp)).1, hk0]
   · have hk8 := kindL_le t.text
     rw [hk] at hk8
     have hbr : ∀ (c : Cmd) (x : List Tok), endO (restC k c x) = (YG 1 x).bind fun p => if k = 5 then endO ((mboxO p.2).map fun q => ({ c with mbox := q.1 }, q.2)) else if k = 6 then (mboxO p.2).bind fun q => (YG 1 q.2).bind fun z => endO (appT { c with mbox := q.1 } z.2) else if k = 7 then (setO p.2).bind fun q => (YG 1 q.2).bind fun z => endO (fetT { c with set := q.1 } z.2) else (setO p.2).bind fun q => (YG 1 q.2).bind fun z => endO (stoT { c with set := q.1 } z.2) := by
      intro c x
      unfold restC selO appO fetO stoO endO
      rcases hk with rfl
      split
      · cases YG 1 x <;> simp_all
      split
      · cases YG 1 x <;> simp_all [appT, Option.bind_assoc]
      split
      · cases YG 1 x <;> simp_all [fetT, Option.bind_assoc]
      split
      · cases YG 1 x <;> simp_all [stoT, Option.bind_assoc]
      · omega
     rw [hbr]
     rcases r with _ | ⟨s, r⟩
     · simp [tE, YM, ht, hk, hk0, hk4]
     · by_cases hs : s.kind = 1
       rotate_left
       · rcases r with _ | ⟨m, r⟩ <;> simp [YM, YG, ht, hk, hk0, hk4, hs]
       rw [List.cons_append, takeO_mk hs, Option.bind_some]
       rcases r with _ | ⟨m, q⟩
       · have e1 : mboxO [e] = none := by simp [mboxO, he]
         have e2 : setO [e] = none := by simp [setO, YG, he]
         simp [YM, ht, hk, hk0, hk4, e1, e2, endO]
       · have hm : mboxO (m :: q ++ [e]) = if mboxR m = true then some (m.text, q ++ [e]) else none := mbox_is (fun h => h4 m (by simp) h) (hlen m (by simp))
         have hse : setO (m :: q ++ [e]) = if m.kind = 4 ∧ (YP m.text).2 = true then some ((YP m.text).1, q ++ [e]) else none := by
          by_cases h : m.kind = 4 <;> simp [setO, YG, h]
         rw [hm, hse]
         have hlq : ∀ t ∈ q, 1 ≤ t.kind ∧ t.kind ≤ 6 := fun x hx => hl x (by simp [hx])
         by_cases hk6 : k ≤ 6
         · cases hmr : mboxR m with
           | false =>
             have : k = 5 ∨ k = 6 := by omega
             rcases this with rfl | rfl <;> simp [YM, ht, hk, hs, hmr, endO]
           | true =>
             by_cases hk5 : k = 5
             · subst hk5
               rcases q with _ | ⟨z, q⟩
               · simp [YM, ht, hk, hs, hmr, endO, YG, he]
               · simp [YM, ht, hk, hs, hmr, endO, z0 (hlq z (by simp)).1]
             · obtain rfl : k = 6 := by omega
               rcases q with _ | ⟨z, d⟩
               · simp [YM, ht, hk, hs, hmr, YG, he]
               · by_cases hz : z.kind = 1
                 · have := app_is (fun x hx => hlq x (by simp [hx])) he { cmd0 tag with kind := 6, mbox := m.text } (l := d)
                   simp [YM, ht, hk, hs, hmr, YG, hz, this]
                 · simp [YM, ht, hk, hs, hmr, YG, hz]
         · by_cases hp : m.kind = 4 ∧ (YP m.text).2 = true
           · rcases q with _ | ⟨z, d⟩
             · have : k = 7 ∨ k = 8 := by omega
               rcases this with rfl | rfl <;> simp [YM, ht, hk, hs, hp, YG, he]
             · have hld : ∀ t ∈ d, 1 ≤ t.kind ∧ t.kind ≤ 6 := fun x hx => hlq x (by simp [hx])
               by_cases hz : z.kind = 1
               · by_cases hk7 : k = 7
                 · subst hk7
                   by_cases hd : d = []
                   · subst hd
                     simp [YM, ht, hk, hs, hp, YG, hz, endO, fetT, YT, he]
                   · have := fet_is hld he { cmd0 tag with kind := 7, set := (YP m.text).1 } hd
                     simp [YM, ht, hk, hs, hp, YG, hz, this, hd]
                 · obtain rfl : k = 8 := by omega
                   by_cases hd : d = []
                   · subst hd
                     simp [YM, ht, hk, hs, hp, YG, hz, endO, stoT, he]
                   · have := sto_is hld he { cmd0 tag with kind := 8, set := (YP m.text).1 }
                     simp [YM, ht, hk, hs, hp, YG, hz, this, hd]
               · have : k = 7 ∨ k = 8 := by omega
                 rcases this with rfl | rfl <;> simp [YM, ht, hk, hs, hp, YG, hz]
           · have hp' : m.kind ≠ 4 ∨ (YP m.text).2 = false := by
              by_cases h : m.kind = 4
              · right; simpa [h] using hp
              · exact .inl h
             have : k = 7 ∨ k = 8 := by omega
             rcases this with rfl | rfl <;> simp [YM, ht, hk, hs, hp, hp']
end Go.Proofs.YtpgfnlhfciacoaaGreatDoor
