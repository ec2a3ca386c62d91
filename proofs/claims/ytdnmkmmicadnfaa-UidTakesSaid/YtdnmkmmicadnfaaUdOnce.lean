/- uid: the Once of a counter, by one goroutine: the calls that doSlow defers, the lock, doSlow, Do (first and again), Validity. -/
import Derived.Test.YtdnmkmmicadnfaaUd
namespace Go.Proofs.Ytdnmkmmicadnfaa
open Go.RowKit

theorem disable (w : World) : (callFunc 38 #[]).run Try.prog w = .ok (.value (.tuple #[])) w := run_call_mark0 Try.func38 (by kernel_rfl) (by kernel_rfl) (by kernel_rfl) .disable (by kernel_rfl) w
theorem enable (w : World) : (callFunc 40 #[]).run Try.prog w = .ok (.value (.tuple #[])) w := run_call_mark0 Try.func40 (by kernel_rfl) (by kernel_rfl) (by kernel_rfl) .enable (by kernel_rfl) w
theorem acquire (a : Addr) (w : World) : (callFunc 41 #[.pointer (some a)]).run Try.prog w = .ok (.value (.tuple #[])) w := run_call_marked Try.func41 (by kernel_rfl) (by kernel_rfl) (by kernel_rfl) .acquire (by kernel_rfl) a w
theorem releaseMerge (a : Addr) (w : World) : (callFunc 43 #[.pointer (some a)]).run Try.prog w = .ok (.value (.tuple #[])) w := run_call_marked Try.func43 (by kernel_rfl) (by kernel_rfl) (by kernel_rfl) .releaseMerge (by kernel_rfl) a w

/-- '(*sync/atomic.Bool).Store(true)', entered as a deferred call: the cell holds 1. -/
theorem store_deferred (a : Addr) (x : Value) (u : FrameMode) (w : World) (hc : w.cell? a = some x) (hz : w.frozen? a = false) :
    CallsD Try.prog 34 #[.pointer (some a), .bool true] u w fun e u' w' => u' = u ∧ (e = .returned (.tuple #[]) ∧ w' = w.drew.setCell a (.int .u32 1)) := by
  have hc' : w.drew.cell? a = some x := by go_simp
  have hz' : w.drew.frozen? a = false := by go_simp
  have hst := run_call_store (P := Try.prog) Try.func26 (by kernel_rfl) (by kernel_rfl) (by kernel_rfl) (by kernel_rfl) (k := .u32) (y := 1) hc' hz'
  go_enter_d Try.func34, Try.ntmps34
  go_wp2
  go_region_calls
  all_goals (go_end0; exact ⟨rfl, rfl⟩)

/-- '(*sync.Mutex).Unlock', entered as a deferred call, the lock held and nobody waiting: state 0. -/
theorem unlock_deferred (a : Addr) (u : FrameMode) (w : World) (hc : w.cell? a = some (.int .i32 1)) (hz : w.frozen? a = false) :
    CallsD Try.prog 33 #[.pointer (some a)] u w fun e u' w' => u' = u ∧ (e = .returned (.tuple #[]) ∧ w' = w.setCell a (.int .i32 0)) := by
  have hd := disable
  have he := enable
  have hr := releaseMerge
  have hadd := run_call_add (P := Try.prog) Try.func44 (by kernel_rfl) (by kernel_rfl) (by kernel_rfl) .i32 (by kernel_rfl) (y := -1) (s := 0) hc hz (by simp [go_sem]; rfl)
  have hcv := run_convert_to_unsafe (P := Try.prog) (src := 81) (dst := 85) Try.underlying81 Try.underlying85 (by kernel_rfl) hc
  go_enter_d Try.func33, Try.ntmps33
  go_wp2
  go_end0
  go_wp2
  go_end0
  exact ⟨rfl, rfl⟩

/-- '(*sync.Mutex).Lock', the lock free: state 1. -/
theorem lock_free (a : Addr) (w : World) (hc : w.cell? a = some (.int .i32 0)) (hz : w.frozen? a = false) :
    Calls Try.prog 32 #[.pointer (some a)] w fun e w' => e = .returned (.tuple #[]) ∧ w' = w.setCell a (.int .i32 1) := by
  have hd := disable
  have he := enable
  have ha := acquire
  have hcas := run_call_cas_hit (P := Try.prog) Try.func39 (by kernel_rfl) (by kernel_rfl) (by kernel_rfl) .i32 (by kernel_rfl) (y := 1) hc hz
  have hc' : (w.setCell a (.int .i32 1)).cell? a = some (.int .i32 1) := World.cell?_setCell_same w a _ hc
  have hcv := run_convert_to_unsafe (P := Try.prog) (src := 81) (dst := 85) Try.underlying81 Try.underlying85 (by kernel_rfl) hc'
  go_enter Try.func32, Try.ntmps32
  go_wp2
  first | go_end0 | (simp only [Exit.inBlock, Exit.then]; refine bodyPost_ret (results_none rfl _ _ _) rfl ?_) | refine bodyPost_ret (results_none rfl _ _ _) rfl ?_
  go_wp2
  go_end0
  exact ⟨rfl, rfl⟩

set_option maxRecDepth 100000 in
set_option maxHeartbeats 1000000 in
/-- The function that Validity hands to Do: the validity is what the counter began with. -/
theorem fresh_any (g : Nat) (pl : Addr) (F : Int) (x6 : Value) (w : World) (hp : w.cell? pl = some (.pointer (some ⟨g, 0, none⟩)))
    (h0 : w.cell? ⟨g, 0, none⟩ = some (.int .u32 F)) (h6 : w.cell? ⟨g, 6, none⟩ = some x6) (f6 : w.frozen? ⟨g, 6, none⟩ = false) :
    Calls Try.prog 25 #[.pointer (some pl)] w fun e w' => e = .returned (.tuple #[]) ∧ w' = (w.setCell ⟨g, 6, none⟩ (.int .u32 F)).drew := by
  go_enter Try.func25, Try.ntmps25
  go_wp2_with fail
  go_region
  all_goals (go_end0; exact ⟨rfl, rfl⟩)

set_option maxRecDepth 100000 in
set_option maxHeartbeats 1600000 in
theorem slow_any (g : Nat) (pl : Addr) (hpb : ¬ g = pl.block) (F : Int) (x6 : Value) (w : World) (hp : w.cell? pl = some (.pointer (some ⟨g, 0, none⟩)))
    (h0 : w.cell? ⟨g, 0, none⟩ = some (.int .u32 F)) (h3 : w.cell? ⟨g, 3, none⟩ = some (.int .u32 0)) (h4 : w.cell? ⟨g, 4, none⟩ = some (.int .i32 0)) (h6 : w.cell? ⟨g, 6, none⟩ = some x6)
    (hf : ∀ o, w.frozen? ⟨g, o, none⟩ = false) :
    Calls Try.prog 31 #[.pointer (some ⟨g, 3, none⟩), .func (.func 25) #[] #[.pointer (some pl)]] w fun e w' => e = .returned (.tuple #[]) ∧
      w' = ((((w.setCell ⟨g, 4, none⟩ (.int .i32 1)).setCell ⟨g, 6, none⟩ (.int .u32 F)).drew.drew).setCell ⟨g, 3, none⟩ (.int .u32 1)).setCell ⟨g, 4, none⟩ (.int .i32 0) := by
  have e3 : (w.setCell ⟨g, 4, none⟩ (.int .i32 1)).cell? ⟨g, 3, none⟩ = some (.int .u32 0) := (World.cell?_setCell_other _ ⟨g, 4, none⟩ ⟨g, 3, none⟩ _ (by simp)).trans h3
  have e0 : (w.setCell ⟨g, 4, none⟩ (.int .i32 1)).cell? ⟨g, 0, none⟩ = some (.int .u32 F) := (World.cell?_setCell_other _ ⟨g, 4, none⟩ ⟨g, 0, none⟩ _ (by simp)).trans h0
  have e6 : (w.setCell ⟨g, 4, none⟩ (.int .i32 1)).cell? ⟨g, 6, none⟩ = some x6 := (World.cell?_setCell_other _ ⟨g, 4, none⟩ ⟨g, 6, none⟩ _ (by simp)).trans h6
  have e4 : (w.setCell ⟨g, 4, none⟩ (.int .i32 1)).cell? ⟨g, 4, none⟩ = some (.int .i32 1) := World.cell?_setCell_same w _ _ h4
  have ep : (w.setCell ⟨g, 4, none⟩ (.int .i32 1)).cell? pl = some (.pointer (some ⟨g, 0, none⟩)) := (World.cell?_setCell_other _ ⟨g, 4, none⟩ pl _ (fun h => hpb (by rw [← h]))).trans hp
  have ef : ∀ o, (w.setCell ⟨g, 4, none⟩ (.int .i32 1)).frozen? ⟨g, o, none⟩ = false := fun o => (World.frozen?_setCell _ _ _ _).trans (hf o)
  have hl := run_call_load (P := Try.prog) Try.func27 (by kernel_rfl) (by kernel_rfl) (by kernel_rfl) .u32 (by kernel_rfl) e3
  have L := Lib.hid (lock_free ⟨g, 4, none⟩ w h4 (hf 4))
  have C := Lib.hid (fresh_any g pl F x6 _ ep e0 e6 (ef 6))
  have hnot : ∀ (x : Bool) (w : World), (Op.unary .not (.bool x)).run Try.prog w = .ok (.bool (!x)) w := fun _ _ => rfl
  have g3 : (((w.setCell ⟨g, 4, none⟩ (.int .i32 1)).setCell ⟨g, 6, none⟩ (.int .u32 F)).drew).cell? ⟨g, 3, none⟩ = some (.int .u32 0) := (World.cell?_setCell_other _ ⟨g, 6, none⟩ ⟨g, 3, none⟩ _ (by simp)).trans e3
  have g4 : (((w.setCell ⟨g, 4, none⟩ (.int .i32 1)).setCell ⟨g, 6, none⟩ (.int .u32 F)).drew).cell? ⟨g, 4, none⟩ = some (.int .i32 1) := (World.cell?_setCell_other _ ⟨g, 6, none⟩ ⟨g, 4, none⟩ _ (by simp)).trans e4
  have gf : ∀ o, (((w.setCell ⟨g, 4, none⟩ (.int .i32 1)).setCell ⟨g, 6, none⟩ (.int .u32 F)).drew).frozen? ⟨g, o, none⟩ = false := fun o => (World.frozen?_setCell _ _ _ _).trans (ef o)
  have G3 := Lib.hid g3
  have G4 := Lib.hid g4
  have GF := Lib.hid gf
  clear g3 g4 gf h0 h3 h4 h6 hf hp e0 e6 e4 ep ef
  go_enter_defers Try.func31, Try.ntmps31
  go_wp2_with (go_at_call 32; refine L.out.mono ?_; rintro e w' ⟨rfl, rfl⟩)
  go_wp2_with (first | (go_at_call 25; refine C.out.mono ?_; rintro e w' ⟨rfl, rfl⟩) | (go_at_call 30; go_in))
  refine leaves_cons (f := 34) (args := #[.pointer (some ⟨g, 3, none⟩), .bool true]) (by simp) (by simp [go_sem]) ?_
  refine (store_deferred ⟨g, 3, none⟩ (.int .u32 0) .returning _ G3.out (GF.out 3)).mono ?_
  rintro e u' w'' ⟨rfl, rfl, rfl⟩
  refine leaves_cons (f := 33) (args := #[.pointer (some ⟨g, 4, none⟩)]) (by simp [settle]) (by simp [go_sem]) ?_
  refine (unlock_deferred ⟨g, 4, none⟩ _ _ ?_ ?_).mono ?_
  · exact (World.cell?_setCell_other _ ⟨g, 3, none⟩ ⟨g, 4, none⟩ _ (by simp)).trans G4.out
  · exact (World.frozen?_setCell _ _ _ _).trans (GF.out 4)
  rintro e u' w'' ⟨rfl, rfl, rfl⟩
  simp [Leaves, settle, results, Try.results31]

set_option maxRecDepth 100000 in
set_option maxHeartbeats 1600000 in
theorem do_first (g : Nat) (pl : Addr) (hpb : ¬ g = pl.block) (F : Int) (x6 : Value) (w : World) (hp : w.cell? pl = some (.pointer (some ⟨g, 0, none⟩)))
    (h0 : w.cell? ⟨g, 0, none⟩ = some (.int .u32 F)) (h3 : w.cell? ⟨g, 3, none⟩ = some (.int .u32 0)) (h4 : w.cell? ⟨g, 4, none⟩ = some (.int .i32 0)) (h6 : w.cell? ⟨g, 6, none⟩ = some x6)
    (hf : ∀ o, w.frozen? ⟨g, o, none⟩ = false) :
    Calls Try.prog 24 #[.pointer (some ⟨g, 3, none⟩), .func (.func 25) #[] #[.pointer (some pl)]] w fun e w' => e = .returned (.tuple #[]) ∧
      w' = ((((w.setCell ⟨g, 4, none⟩ (.int .i32 1)).setCell ⟨g, 6, none⟩ (.int .u32 F)).drew.drew).setCell ⟨g, 3, none⟩ (.int .u32 1)).setCell ⟨g, 4, none⟩ (.int .i32 0) := by
  have C := Lib.hid (slow_any g pl hpb F x6 w hp h0 h3 h4 h6 hf)
  have hl := run_call_load (P := Try.prog) Try.func27 (by kernel_rfl) (by kernel_rfl) (by kernel_rfl) .u32 (by kernel_rfl) h3
  have hnot : ∀ (x : Bool) (w : World), (Op.unary .not (.bool x)).run Try.prog w = .ok (.bool (!x)) w := fun _ _ => rfl
  clear hf hp h0 h4 h6
  go_enter Try.func24, Try.ntmps24
  go_wp2_with (first | (go_at_call 31; refine C.out.mono ?_; rintro e w' ⟨rfl, rfl⟩) | (go_at_call 30; go_in))
  go_end0
  exact ⟨rfl, rfl⟩

theorem do_done (g : Nat) (fv : Value) (w : World) (h0 : w.cell? ⟨g, 3, none⟩ = some (.int .u32 1)) :
    Calls Try.prog 24 #[.pointer (some ⟨g, 3, none⟩), fv] w fun e w' => e = .returned (.tuple #[]) ∧ w = w' := by
  have hl := run_call_load (P := Try.prog) Try.func27 (by kernel_rfl) (by kernel_rfl) (by kernel_rfl) .u32 (by kernel_rfl) h0
  have hnot : ∀ (x : Bool) (w : World), (Op.unary .not (.bool x)).run Try.prog w = .ok (.bool (!x)) w := fun _ _ => rfl
  go_enter Try.func24, Try.ntmps24
  go_wp2
  go_end0
  exact ⟨rfl, rfl⟩

end Go.Proofs.Ytdnmkmmicadnfaa
