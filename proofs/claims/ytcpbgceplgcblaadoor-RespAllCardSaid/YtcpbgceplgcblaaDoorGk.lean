/- FROM A WALK TO A ROW: plain lemmas for laws (a bool, no variable named in the specification): the arguments read as they read, since nothing that was there has turned. -/
import Derived.Test.YtcpbgceplgcblaaDoorRows
import Derived.Test.YtcpbgceplgcblaaDoorGa
import Derived.ProofKit
import Derived.LaidMore
import Derived.LaidSub
import Derived.OpenShut
import Derived.Stop.Joined
import Derived.Stop.LaidErr
import Derived.Test.YtcpbgceplgcblaaDoorGb
namespace Go.Proofs.YtcpbgceplgcblaaDoor
open Go.ChangeShapes Go.WideShapes Go.ChangeAt Go.WideMaps Go.WideElems Go.RowKit

theorem laidOut : laidOutB Tryd.prog = true := by kernel_rfl
theorem own : ownKnob Tryd.prog.godebug = none := by kernel_rfl

theorem trodAll_later {H : Type} {enc : TypeId × Value → H} {W W' : World} (hb : Below W.heap.size W W') :
    ∀ (ts : List TypeId) (vs : List Value) (ds : List (DataW H)) (ps : List MemPlace), (∀ t ∈ ts, (Tryd.prog.readableRec t && decide (t < Tryd.prog.types.size)) = true) →
      DataW.TrodAll enc Tryd.prog W 0 (fun _ => true) true ts vs ds ps → (∀ x ∈ ps, x.block < W.heap.size) → DataW.TrodAll enc Tryd.prog W' 0 (fun b => decide (b < W.heap.size)) true ts vs ds ps
  | [], [], [], _, _, h, _ => h
  | t :: ts, v :: vs, d :: ds, ps, hr, h, hlt => by
    obtain ⟨p, q, h1, h2, rfl⟩ := h
    have hx := hr t (by simp)
    simp only [Bool.and_eq_true, decide_eq_true_eq] at hx
    exact ⟨p, q, Below.trod laidOut hx.1 hx.2 h1 hb (fun x hm => hlt x (by simp [hm])), trodAll_later hb ts vs ds q (fun u hu => hr u (by simp [hu])) h2 (fun x hm => hlt x (by simp [hm])), rfl⟩
  | [], [], _ :: _, _, _, h, _ => h.elim
  | [], _ :: _, _, _, _, h, _ => h.elim
  | _ :: _, [], _, _, _, h, _ => h.elim
  | _ :: _, _ :: _, [], _, _, h, _ => h.elim

/-- A law's end: true, and of what was there nothing has turned. -/
theorem law_post {H : Type} {enc : TypeId × Value → H} {f : Func} {s : ChangeSpec} (hv : s.vars = []) (hr : f.resultTypes = #[4]) (hp : (f.params.toList.all fun t => Tryd.prog.readableRec t && decide (t < Tryd.prog.types.size)) = true)
    {W W' : World} {args : Array Value} {ds : List (DataW H)} {before : List MemPlace} (hs : s.fn H (ds ++ []) = { results := [.lit (.bool true)], args := ds })
    (hW : DataW.Whole enc Tryd.prog f.params.toList s.vars false W args.toList ds [] before) (hb : Below W.heap.size W W') : s.post enc Tryd.prog f false true false false W args (.bool true) W' := by
  have hlt := hW.lt
  have hW2 := hW
  obtain ⟨p, q, hA, hV, rfl, _, _⟩ := hW
  rw [hv] at hV
  obtain ⟨_, rfl⟩ := trodVars_none hV
  refine ⟨ds, [], p ++ [], [], p, [], hW2, ?_, ?_, ?_, hb.frame _, fun h => by cases h⟩
  · rw [hs, hr]
    exact trodAll_mk1 (shut_bool Tryd.underlying4 _)
  · rw [hs]
    exact trodAll_later hb _ _ _ _ (List.all_eq_true.1 hp) hA (fun x hx => hlt x (by simp [hx]))
  · rw [hs, hv]
    rfl

end Go.Proofs.YtcpbgceplgcblaaDoor

namespace Go.Proofs.YtcpbgceplgcblaaDoor
open Go.ChangeShapes Go.WideShapes Go.ChangeAt Go.WideMaps Go.WideElems Go.RowKit

/-- WHAT A ROW's LIST GIVES: what the world owes. -/
theorem env_of {L : List (String × DataW Unit)} {W : World} (h : laidMetH Tryd.prog L W) (hp : (L.all fun x => x.2.handleName?.isNone) = true)
    (h1 : L.filter (fun x => x.1 == "internal/strconv.uint64pow10") = [("internal/strconv.uint64pow10", Lib.tabData .u64 Lib.pow10Tab)]) : Env W := by
  rw [MakeChecks.laidMetH_plain _ _ _ hp] at h
  have t1 := h.filter (fun x => x.1 == "internal/strconv.uint64pow10")
  rw [h1] at t1
  exact ⟨Lib.tabIs_of_head globTab (by kernel_rfl) Tryd.underlying106 Tryd.underlying73 (by kernel_rfl) (by kernel_rfl) t1⟩
end Go.Proofs.YtcpbgceplgcblaaDoor

namespace Go.Proofs.YtcpbgceplgcblaaDoor
open Go.ChangeShapes Go.WideShapes Go.ChangeAt Go.WideMaps Go.WideElems Go.RowKit

set_option maxRecDepth 100000 in
theorem open_str2 {H : Type} {enc : TypeId × Value → H} {W : World} {base : Nat} {v : Value} {d : DataW H} {p : List MemPlace}
    (hv : Value.okWide Tryd.prog W .any base 40 v) (h : DataW.Trod enc Tryd.prog W 0 (fun _ => true) true 40 v d p) :
    ∃ s0 s1 : ByteArray, v = .agg #[.string s0, .string s1] := by
  unfold Value.okWide at hv
  rw [Tryd.underlying40] at hv
  obtain ⟨cs, rfl, hsz, _⟩ := hv
  rw [show Tryd.prog.cellsOf 40 = 2 by kernel_rfl] at hsz
  obtain ⟨a, b, rfl⟩ : ∃ a b, cs = #[a, b] := by
    obtain ⟨l⟩ := cs
    match l, hsz with
    | [a, b], _ => exact ⟨a, b, rfl⟩
  obtain ⟨fuel, hf⟩ := h
  obtain ⟨xs, m, _, _, _, hxs, hi⟩ := DataW.trod_array Tryd.underlying40 hf
  have c1 : Tryd.prog.cellsOf 9 = 1 := by kernel_rfl
  have e0 := hi 0 (by decide)
  have e1 := hi 1 (by decide)
  rw [c1, List.getElem?_eq_getElem (by omega)] at e0 e1
  obtain ⟨x, hx1, _, _⟩ := DataW.trod_string Tryd.underlying9 e0
  obtain ⟨y, hy1, _, _⟩ := DataW.trod_string Tryd.underlying9 e1
  have hx2 : a = .string x := by simpa [Value.cells] using hx1
  have hy2 : b = .string y := by simpa [Value.cells] using hy1
  exact ⟨x, y, by rw [hx2, hy2]⟩
end Go.Proofs.YtcpbgceplgcblaaDoor
