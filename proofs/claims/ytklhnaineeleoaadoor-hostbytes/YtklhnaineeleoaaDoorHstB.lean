/- HostBytes: four blocks. -/
import Derived.Test.YtklhnaineeleoaaDoorHst8
import Derived.Deep.RegionHeld
namespace Go.Proofs.YtklhnaineeleoaaDoor
open Go.ChangeShapes Go.WideShapes Go.ChangeAt Go.RowKit
set_option linter.unusedVariables false
set_option linter.unusedSimpArgs false

def HObj (h : HV) : Obj := Obj.cells #[.int .i64 h.op, .int .i64 h.d, .int .i64 h.a, .int .i64 h.b, .int .i64 h.c, .int .u32 h.im] 26
theorem four_blocks (w1 : World) (h1 h2 h3 h4 : HV) (W : World) (hW : (((w1.alloc (HObj h1)).alloc (HObj h2)).alloc (HObj h3)).alloc (HObj h4) = W) :
    At6 W w1.heap.size 0 h1 ∧ At6 W (w1.heap.size + 1) 0 h2 ∧ At6 W (w1.heap.size + 1 + 1) 0 h3 ∧ At6 W (w1.heap.size + 1 + 1 + 1) 0 h4 ∧ Below w1.heap.size w1 W := by
  subst hW
  have n1 := At6.new w1 h1 26
  have n2 := At6.new (w1.alloc (HObj h1)) h2 26
  have n3 := At6.new ((w1.alloc (HObj h1)).alloc (HObj h2)) h3 26
  have n4 := At6.new (((w1.alloc (HObj h1)).alloc (HObj h2)).alloc (HObj h3)) h4 26
  have l : ∀ (w : World) (o : Obj), Below w.heap.size w (w.alloc o) := fun w o => (Below.refl _ _).alloc (Nat.le_refl _) _
  rw [alloc_size'] at n2
  rw [alloc_size', alloc_size'] at n3
  rw [alloc_size', alloc_size', alloc_size'] at n4
  refine ⟨((At6.below n1 (l _ _) (by simp [alloc_size'])).below (l _ _) (by simp [alloc_size']; omega)).below (l _ _) (by simp [alloc_size']; omega), (At6.below n2 (l _ _) (by simp [alloc_size'])).below (l _ _) (by simp [alloc_size']), At6.below n3 (l _ _) (by simp [alloc_size']), n4, ?_⟩
  exact (((l _ _).trans ((l _ _).mono (by simp [alloc_size']))).trans ((l _ _).mono (by simp [alloc_size']; omega))).trans ((l _ _).mono (by simp [alloc_size']; omega))

/-- A stronger condition may be held from here on. -/
theorem wpAnyH_mono {P : Program} {ops : Array Oper} {Q : Exit → Act → World → Prop} {md : Region.Mode} {S S' : World → Prop} (hS : ∀ w, S' w → S w) : ∀ (fuel : Nat) (listed : Array Bool) (a : Act) (w : World), wpAnyH P md ops Q S' fuel listed a w → wpAnyH P md ops Q S fuel listed a w
  | 0, _, _, _, h => h
  | fuel + 1, _, _, _, h => ⟨h.1, fun i hi => wpOp_mono (fun a' w' h' => ⟨hS _ h'.1, wpAnyH_mono hS fuel _ a' w' h'.2⟩) (h.2 i hi)⟩

end Go.Proofs.YtklhnaineeleoaaDoor
