/- Stage 8: cond.It, walked at every condition and mask that a word can have. -/
import Derived.Test.YtblcklknlfofgaaDoorTh2b
import Derived.Laws.AppendOwn
namespace Go.Proofs.YtblcklknlfofgaaDoor
open Go.ChangeShapes Go.WideShapes Go.ChangeAt Go.RowKit
set_option linter.unusedVariables false
set_option linter.unusedSimpArgs false

def tzN (m : Nat) : Nat := [0, 0, 1, 0, 2, 0, 1, 0, 3, 0, 1, 0, 2, 0, 1, 0].getD m 0
theorem tz64_1 (w : World) (hc : w.cell? ⟨5, 0, none⟩ = some (.int .u8 0)) : Calls Tryd.prog 77 #[.int .u64 1] w fun e w' => e = .returned (.int .i64 0) ∧ w' = w := by
  have key : IntKind.u64.wrap (bits BinOp.and IntKind.u64 1 (IntKind.u64.wrap (-1)) * 285870213051353865) / 288230376151711744 = 0 := by decide +kernel
  go_enter Tryd.func77, Tryd.ntmps77
  go_wp2_with (simp only [key])
  go_ret
  exact ⟨rfl, rfl⟩
theorem tz_1 (w : World) (hc : w.cell? ⟨5, 0, none⟩ = some (.int .u8 0)) : Calls Tryd.prog 73 #[.int .u64 1] w fun e w' => e = .returned (.int .i64 0) ∧ w' = w := by
  have C : Hid (Calls Tryd.prog 77 #[.int .u64 1] w fun e w' => e = .returned (.int .i64 0) ∧ w' = w) := tz64_1 w hc
  clear hc
  go_enter Tryd.func73, Tryd.ntmps73
  go_wp2_with fail
  refine Calls.mono C.out ?_
  rintro e _ ⟨rfl, rfl⟩
  go_wp2
  go_ret
  exact ⟨rfl, rfl⟩
theorem oc64_1 (w : World) : Calls Tryd.prog 79 #[.int .u64 1] w fun e w' => e = .returned (.int .i64 1) ∧ w' = w := by
  go_enter Tryd.func79, Tryd.ntmps79
  go_wp2
  go_ret
  exact ⟨by kernel_rfl, rfl⟩
theorem may14_1 (w : World) : Calls Tryd.prog 72 #[.int .i64 14, .int .i64 1] w fun e w' => e = .returned (.bool true) ∧ w' = w := by
  have C : Hid (∀ w, Calls Tryd.prog 75 #[.int .u64 1] w fun e w' => e = .returned (.int .i64 1) ∧ w' = w) := fun w => by
    have C : Hid (∀ w, Calls Tryd.prog 79 #[.int .u64 1] w fun e w' => e = .returned (.int .i64 1) ∧ w' = w) := fun w => oc64_1 w
    go_enter Tryd.func75, Tryd.ntmps75
    go_wp2_with fail
    refine Calls.mono (C.out _) ?_
    rintro e _ ⟨rfl, rfl⟩
    go_wp2
    go_ret
    exact ⟨rfl, rfl⟩
  go_enter Tryd.func72, Tryd.ntmps72
  go_wp2_with fail
  refine (C.out _).mono ?_
  rintro e _ ⟨rfl, rfl⟩
  go_wp2
  go_ret
  exact ⟨rfl, rfl⟩
theorem tz64_2 (w : World) (hc : w.cell? ⟨5, 1, none⟩ = some (.int .u8 1)) : Calls Tryd.prog 77 #[.int .u64 2] w fun e w' => e = .returned (.int .i64 1) ∧ w' = w := by
  have key : IntKind.u64.wrap (bits BinOp.and IntKind.u64 2 (IntKind.u64.wrap (-2)) * 285870213051353865) / 288230376151711744 = 1 := by decide +kernel
  go_enter Tryd.func77, Tryd.ntmps77
  go_wp2_with (simp only [key])
  go_ret
  exact ⟨rfl, rfl⟩
theorem tz_2 (w : World) (hc : w.cell? ⟨5, 1, none⟩ = some (.int .u8 1)) : Calls Tryd.prog 73 #[.int .u64 2] w fun e w' => e = .returned (.int .i64 1) ∧ w' = w := by
  have C : Hid (Calls Tryd.prog 77 #[.int .u64 2] w fun e w' => e = .returned (.int .i64 1) ∧ w' = w) := tz64_2 w hc
  clear hc
  go_enter Tryd.func73, Tryd.ntmps73
  go_wp2_with fail
  refine Calls.mono C.out ?_
  rintro e _ ⟨rfl, rfl⟩
  go_wp2
  go_ret
  exact ⟨rfl, rfl⟩
theorem oc64_2 (w : World) : Calls Tryd.prog 79 #[.int .u64 2] w fun e w' => e = .returned (.int .i64 1) ∧ w' = w := by
  go_enter Tryd.func79, Tryd.ntmps79
  go_wp2
  go_ret
  exact ⟨by kernel_rfl, rfl⟩
theorem may14_2 (w : World) : Calls Tryd.prog 72 #[.int .i64 14, .int .i64 2] w fun e w' => e = .returned (.bool true) ∧ w' = w := by
  have C : Hid (∀ w, Calls Tryd.prog 75 #[.int .u64 2] w fun e w' => e = .returned (.int .i64 1) ∧ w' = w) := fun w => by
    have C : Hid (∀ w, Calls Tryd.prog 79 #[.int .u64 2] w fun e w' => e = .returned (.int .i64 1) ∧ w' = w) := fun w => oc64_2 w
    go_enter Tryd.func75, Tryd.ntmps75
    go_wp2_with fail
    refine Calls.mono (C.out _) ?_
    rintro e _ ⟨rfl, rfl⟩
    go_wp2
    go_ret
    exact ⟨rfl, rfl⟩
  go_enter Tryd.func72, Tryd.ntmps72
  go_wp2_with fail
  refine (C.out _).mono ?_
  rintro e _ ⟨rfl, rfl⟩
  go_wp2
  go_ret
  exact ⟨rfl, rfl⟩
theorem tz64_3 (w : World) (hc : w.cell? ⟨5, 0, none⟩ = some (.int .u8 0)) : Calls Tryd.prog 77 #[.int .u64 3] w fun e w' => e = .returned (.int .i64 0) ∧ w' = w := by
  have key : IntKind.u64.wrap (bits BinOp.and IntKind.u64 3 (IntKind.u64.wrap (-3)) * 285870213051353865) / 288230376151711744 = 0 := by decide +kernel
  go_enter Tryd.func77, Tryd.ntmps77
  go_wp2_with (simp only [key])
  go_ret
  exact ⟨rfl, rfl⟩
theorem tz_3 (w : World) (hc : w.cell? ⟨5, 0, none⟩ = some (.int .u8 0)) : Calls Tryd.prog 73 #[.int .u64 3] w fun e w' => e = .returned (.int .i64 0) ∧ w' = w := by
  have C : Hid (Calls Tryd.prog 77 #[.int .u64 3] w fun e w' => e = .returned (.int .i64 0) ∧ w' = w) := tz64_3 w hc
  clear hc
  go_enter Tryd.func73, Tryd.ntmps73
  go_wp2_with fail
  refine Calls.mono C.out ?_
  rintro e _ ⟨rfl, rfl⟩
  go_wp2
  go_ret
  exact ⟨rfl, rfl⟩
theorem oc64_3 (w : World) : Calls Tryd.prog 79 #[.int .u64 3] w fun e w' => e = .returned (.int .i64 2) ∧ w' = w := by
  go_enter Tryd.func79, Tryd.ntmps79
  go_wp2
  go_ret
  exact ⟨by kernel_rfl, rfl⟩
theorem may14_3 (w : World) : Calls Tryd.prog 72 #[.int .i64 14, .int .i64 3] w fun e w' => e = .returned (.bool false) ∧ w' = w := by
  have C : Hid (∀ w, Calls Tryd.prog 75 #[.int .u64 3] w fun e w' => e = .returned (.int .i64 2) ∧ w' = w) := fun w => by
    have C : Hid (∀ w, Calls Tryd.prog 79 #[.int .u64 3] w fun e w' => e = .returned (.int .i64 2) ∧ w' = w) := fun w => oc64_3 w
    go_enter Tryd.func75, Tryd.ntmps75
    go_wp2_with fail
    refine Calls.mono (C.out _) ?_
    rintro e _ ⟨rfl, rfl⟩
    go_wp2
    go_ret
    exact ⟨rfl, rfl⟩
  go_enter Tryd.func72, Tryd.ntmps72
  go_wp2_with fail
  refine (C.out _).mono ?_
  rintro e _ ⟨rfl, rfl⟩
  go_wp2
  go_ret
  exact ⟨rfl, rfl⟩
theorem tz64_4 (w : World) (hc : w.cell? ⟨5, 3, none⟩ = some (.int .u8 2)) : Calls Tryd.prog 77 #[.int .u64 4] w fun e w' => e = .returned (.int .i64 2) ∧ w' = w := by
  have key : IntKind.u64.wrap (bits BinOp.and IntKind.u64 4 (IntKind.u64.wrap (-4)) * 285870213051353865) / 288230376151711744 = 3 := by decide +kernel
  go_enter Tryd.func77, Tryd.ntmps77
  go_wp2_with (simp only [key])
  go_ret
  exact ⟨rfl, rfl⟩
theorem tz_4 (w : World) (hc : w.cell? ⟨5, 3, none⟩ = some (.int .u8 2)) : Calls Tryd.prog 73 #[.int .u64 4] w fun e w' => e = .returned (.int .i64 2) ∧ w' = w := by
  have C : Hid (Calls Tryd.prog 77 #[.int .u64 4] w fun e w' => e = .returned (.int .i64 2) ∧ w' = w) := tz64_4 w hc
  clear hc
  go_enter Tryd.func73, Tryd.ntmps73
  go_wp2_with fail
  refine Calls.mono C.out ?_
  rintro e _ ⟨rfl, rfl⟩
  go_wp2
  go_ret
  exact ⟨rfl, rfl⟩
theorem oc64_4 (w : World) : Calls Tryd.prog 79 #[.int .u64 4] w fun e w' => e = .returned (.int .i64 1) ∧ w' = w := by
  go_enter Tryd.func79, Tryd.ntmps79
  go_wp2
  go_ret
  exact ⟨by kernel_rfl, rfl⟩
theorem may14_4 (w : World) : Calls Tryd.prog 72 #[.int .i64 14, .int .i64 4] w fun e w' => e = .returned (.bool true) ∧ w' = w := by
  have C : Hid (∀ w, Calls Tryd.prog 75 #[.int .u64 4] w fun e w' => e = .returned (.int .i64 1) ∧ w' = w) := fun w => by
    have C : Hid (∀ w, Calls Tryd.prog 79 #[.int .u64 4] w fun e w' => e = .returned (.int .i64 1) ∧ w' = w) := fun w => oc64_4 w
    go_enter Tryd.func75, Tryd.ntmps75
    go_wp2_with fail
    refine Calls.mono (C.out _) ?_
    rintro e _ ⟨rfl, rfl⟩
    go_wp2
    go_ret
    exact ⟨rfl, rfl⟩
  go_enter Tryd.func72, Tryd.ntmps72
  go_wp2_with fail
  refine (C.out _).mono ?_
  rintro e _ ⟨rfl, rfl⟩
  go_wp2
  go_ret
  exact ⟨rfl, rfl⟩
theorem tz64_5 (w : World) (hc : w.cell? ⟨5, 0, none⟩ = some (.int .u8 0)) : Calls Tryd.prog 77 #[.int .u64 5] w fun e w' => e = .returned (.int .i64 0) ∧ w' = w := by
  have key : IntKind.u64.wrap (bits BinOp.and IntKind.u64 5 (IntKind.u64.wrap (-5)) * 285870213051353865) / 288230376151711744 = 0 := by decide +kernel
  go_enter Tryd.func77, Tryd.ntmps77
  go_wp2_with (simp only [key])
  go_ret
  exact ⟨rfl, rfl⟩
theorem tz_5 (w : World) (hc : w.cell? ⟨5, 0, none⟩ = some (.int .u8 0)) : Calls Tryd.prog 73 #[.int .u64 5] w fun e w' => e = .returned (.int .i64 0) ∧ w' = w := by
  have C : Hid (Calls Tryd.prog 77 #[.int .u64 5] w fun e w' => e = .returned (.int .i64 0) ∧ w' = w) := tz64_5 w hc
  clear hc
  go_enter Tryd.func73, Tryd.ntmps73
  go_wp2_with fail
  refine Calls.mono C.out ?_
  rintro e _ ⟨rfl, rfl⟩
  go_wp2
  go_ret
  exact ⟨rfl, rfl⟩
theorem oc64_5 (w : World) : Calls Tryd.prog 79 #[.int .u64 5] w fun e w' => e = .returned (.int .i64 2) ∧ w' = w := by
  go_enter Tryd.func79, Tryd.ntmps79
  go_wp2
  go_ret
  exact ⟨by kernel_rfl, rfl⟩
theorem may14_5 (w : World) : Calls Tryd.prog 72 #[.int .i64 14, .int .i64 5] w fun e w' => e = .returned (.bool false) ∧ w' = w := by
  have C : Hid (∀ w, Calls Tryd.prog 75 #[.int .u64 5] w fun e w' => e = .returned (.int .i64 2) ∧ w' = w) := fun w => by
    have C : Hid (∀ w, Calls Tryd.prog 79 #[.int .u64 5] w fun e w' => e = .returned (.int .i64 2) ∧ w' = w) := fun w => oc64_5 w
    go_enter Tryd.func75, Tryd.ntmps75
    go_wp2_with fail
    refine Calls.mono (C.out _) ?_
    rintro e _ ⟨rfl, rfl⟩
    go_wp2
    go_ret
    exact ⟨rfl, rfl⟩
  go_enter Tryd.func72, Tryd.ntmps72
  go_wp2_with fail
  refine (C.out _).mono ?_
  rintro e _ ⟨rfl, rfl⟩
  go_wp2
  go_ret
  exact ⟨rfl, rfl⟩
theorem tz64_6 (w : World) (hc : w.cell? ⟨5, 1, none⟩ = some (.int .u8 1)) : Calls Tryd.prog 77 #[.int .u64 6] w fun e w' => e = .returned (.int .i64 1) ∧ w' = w := by
  have key : IntKind.u64.wrap (bits BinOp.and IntKind.u64 6 (IntKind.u64.wrap (-6)) * 285870213051353865) / 288230376151711744 = 1 := by decide +kernel
  go_enter Tryd.func77, Tryd.ntmps77
  go_wp2_with (simp only [key])
  go_ret
  exact ⟨rfl, rfl⟩
theorem tz_6 (w : World) (hc : w.cell? ⟨5, 1, none⟩ = some (.int .u8 1)) : Calls Tryd.prog 73 #[.int .u64 6] w fun e w' => e = .returned (.int .i64 1) ∧ w' = w := by
  have C : Hid (Calls Tryd.prog 77 #[.int .u64 6] w fun e w' => e = .returned (.int .i64 1) ∧ w' = w) := tz64_6 w hc
  clear hc
  go_enter Tryd.func73, Tryd.ntmps73
  go_wp2_with fail
  refine Calls.mono C.out ?_
  rintro e _ ⟨rfl, rfl⟩
  go_wp2
  go_ret
  exact ⟨rfl, rfl⟩
theorem oc64_6 (w : World) : Calls Tryd.prog 79 #[.int .u64 6] w fun e w' => e = .returned (.int .i64 2) ∧ w' = w := by
  go_enter Tryd.func79, Tryd.ntmps79
  go_wp2
  go_ret
  exact ⟨by kernel_rfl, rfl⟩
theorem may14_6 (w : World) : Calls Tryd.prog 72 #[.int .i64 14, .int .i64 6] w fun e w' => e = .returned (.bool false) ∧ w' = w := by
  have C : Hid (∀ w, Calls Tryd.prog 75 #[.int .u64 6] w fun e w' => e = .returned (.int .i64 2) ∧ w' = w) := fun w => by
    have C : Hid (∀ w, Calls Tryd.prog 79 #[.int .u64 6] w fun e w' => e = .returned (.int .i64 2) ∧ w' = w) := fun w => oc64_6 w
    go_enter Tryd.func75, Tryd.ntmps75
    go_wp2_with fail
    refine Calls.mono (C.out _) ?_
    rintro e _ ⟨rfl, rfl⟩
    go_wp2
    go_ret
    exact ⟨rfl, rfl⟩
  go_enter Tryd.func72, Tryd.ntmps72
  go_wp2_with fail
  refine (C.out _).mono ?_
  rintro e _ ⟨rfl, rfl⟩
  go_wp2
  go_ret
  exact ⟨rfl, rfl⟩
theorem tz64_7 (w : World) (hc : w.cell? ⟨5, 0, none⟩ = some (.int .u8 0)) : Calls Tryd.prog 77 #[.int .u64 7] w fun e w' => e = .returned (.int .i64 0) ∧ w' = w := by
  have key : IntKind.u64.wrap (bits BinOp.and IntKind.u64 7 (IntKind.u64.wrap (-7)) * 285870213051353865) / 288230376151711744 = 0 := by decide +kernel
  go_enter Tryd.func77, Tryd.ntmps77
  go_wp2_with (simp only [key])
  go_ret
  exact ⟨rfl, rfl⟩
theorem tz_7 (w : World) (hc : w.cell? ⟨5, 0, none⟩ = some (.int .u8 0)) : Calls Tryd.prog 73 #[.int .u64 7] w fun e w' => e = .returned (.int .i64 0) ∧ w' = w := by
  have C : Hid (Calls Tryd.prog 77 #[.int .u64 7] w fun e w' => e = .returned (.int .i64 0) ∧ w' = w) := tz64_7 w hc
  clear hc
  go_enter Tryd.func73, Tryd.ntmps73
  go_wp2_with fail
  refine Calls.mono C.out ?_
  rintro e _ ⟨rfl, rfl⟩
  go_wp2
  go_ret
  exact ⟨rfl, rfl⟩
theorem oc64_7 (w : World) : Calls Tryd.prog 79 #[.int .u64 7] w fun e w' => e = .returned (.int .i64 3) ∧ w' = w := by
  go_enter Tryd.func79, Tryd.ntmps79
  go_wp2
  go_ret
  exact ⟨by kernel_rfl, rfl⟩
theorem may14_7 (w : World) : Calls Tryd.prog 72 #[.int .i64 14, .int .i64 7] w fun e w' => e = .returned (.bool false) ∧ w' = w := by
  have C : Hid (∀ w, Calls Tryd.prog 75 #[.int .u64 7] w fun e w' => e = .returned (.int .i64 3) ∧ w' = w) := fun w => by
    have C : Hid (∀ w, Calls Tryd.prog 79 #[.int .u64 7] w fun e w' => e = .returned (.int .i64 3) ∧ w' = w) := fun w => oc64_7 w
    go_enter Tryd.func75, Tryd.ntmps75
    go_wp2_with fail
    refine Calls.mono (C.out _) ?_
    rintro e _ ⟨rfl, rfl⟩
    go_wp2
    go_ret
    exact ⟨rfl, rfl⟩
  go_enter Tryd.func72, Tryd.ntmps72
  go_wp2_with fail
  refine (C.out _).mono ?_
  rintro e _ ⟨rfl, rfl⟩
  go_wp2
  go_ret
  exact ⟨rfl, rfl⟩
theorem tz64_8 (w : World) (hc : w.cell? ⟨5, 7, none⟩ = some (.int .u8 3)) : Calls Tryd.prog 77 #[.int .u64 8] w fun e w' => e = .returned (.int .i64 3) ∧ w' = w := by
  have key : IntKind.u64.wrap (bits BinOp.and IntKind.u64 8 (IntKind.u64.wrap (-8)) * 285870213051353865) / 288230376151711744 = 7 := by decide +kernel
  go_enter Tryd.func77, Tryd.ntmps77
  go_wp2_with (simp only [key])
  go_ret
  exact ⟨rfl, rfl⟩
theorem tz_8 (w : World) (hc : w.cell? ⟨5, 7, none⟩ = some (.int .u8 3)) : Calls Tryd.prog 73 #[.int .u64 8] w fun e w' => e = .returned (.int .i64 3) ∧ w' = w := by
  have C : Hid (Calls Tryd.prog 77 #[.int .u64 8] w fun e w' => e = .returned (.int .i64 3) ∧ w' = w) := tz64_8 w hc
  clear hc
  go_enter Tryd.func73, Tryd.ntmps73
  go_wp2_with fail
  refine Calls.mono C.out ?_
  rintro e _ ⟨rfl, rfl⟩
  go_wp2
  go_ret
  exact ⟨rfl, rfl⟩
theorem oc64_8 (w : World) : Calls Tryd.prog 79 #[.int .u64 8] w fun e w' => e = .returned (.int .i64 1) ∧ w' = w := by
  go_enter Tryd.func79, Tryd.ntmps79
  go_wp2
  go_ret
  exact ⟨by kernel_rfl, rfl⟩
theorem may14_8 (w : World) : Calls Tryd.prog 72 #[.int .i64 14, .int .i64 8] w fun e w' => e = .returned (.bool true) ∧ w' = w := by
  have C : Hid (∀ w, Calls Tryd.prog 75 #[.int .u64 8] w fun e w' => e = .returned (.int .i64 1) ∧ w' = w) := fun w => by
    have C : Hid (∀ w, Calls Tryd.prog 79 #[.int .u64 8] w fun e w' => e = .returned (.int .i64 1) ∧ w' = w) := fun w => oc64_8 w
    go_enter Tryd.func75, Tryd.ntmps75
    go_wp2_with fail
    refine Calls.mono (C.out _) ?_
    rintro e _ ⟨rfl, rfl⟩
    go_wp2
    go_ret
    exact ⟨rfl, rfl⟩
  go_enter Tryd.func72, Tryd.ntmps72
  go_wp2_with fail
  refine (C.out _).mono ?_
  rintro e _ ⟨rfl, rfl⟩
  go_wp2
  go_ret
  exact ⟨rfl, rfl⟩
theorem tz64_9 (w : World) (hc : w.cell? ⟨5, 0, none⟩ = some (.int .u8 0)) : Calls Tryd.prog 77 #[.int .u64 9] w fun e w' => e = .returned (.int .i64 0) ∧ w' = w := by
  have key : IntKind.u64.wrap (bits BinOp.and IntKind.u64 9 (IntKind.u64.wrap (-9)) * 285870213051353865) / 288230376151711744 = 0 := by decide +kernel
  go_enter Tryd.func77, Tryd.ntmps77
  go_wp2_with (simp only [key])
  go_ret
  exact ⟨rfl, rfl⟩
theorem tz_9 (w : World) (hc : w.cell? ⟨5, 0, none⟩ = some (.int .u8 0)) : Calls Tryd.prog 73 #[.int .u64 9] w fun e w' => e = .returned (.int .i64 0) ∧ w' = w := by
  have C : Hid (Calls Tryd.prog 77 #[.int .u64 9] w fun e w' => e = .returned (.int .i64 0) ∧ w' = w) := tz64_9 w hc
  clear hc
  go_enter Tryd.func73, Tryd.ntmps73
  go_wp2_with fail
  refine Calls.mono C.out ?_
  rintro e _ ⟨rfl, rfl⟩
  go_wp2
  go_ret
  exact ⟨rfl, rfl⟩
theorem oc64_9 (w : World) : Calls Tryd.prog 79 #[.int .u64 9] w fun e w' => e = .returned (.int .i64 2) ∧ w' = w := by
  go_enter Tryd.func79, Tryd.ntmps79
  go_wp2
  go_ret
  exact ⟨by kernel_rfl, rfl⟩
theorem may14_9 (w : World) : Calls Tryd.prog 72 #[.int .i64 14, .int .i64 9] w fun e w' => e = .returned (.bool false) ∧ w' = w := by
  have C : Hid (∀ w, Calls Tryd.prog 75 #[.int .u64 9] w fun e w' => e = .returned (.int .i64 2) ∧ w' = w) := fun w => by
    have C : Hid (∀ w, Calls Tryd.prog 79 #[.int .u64 9] w fun e w' => e = .returned (.int .i64 2) ∧ w' = w) := fun w => oc64_9 w
    go_enter Tryd.func75, Tryd.ntmps75
    go_wp2_with fail
    refine Calls.mono (C.out _) ?_
    rintro e _ ⟨rfl, rfl⟩
    go_wp2
    go_ret
    exact ⟨rfl, rfl⟩
  go_enter Tryd.func72, Tryd.ntmps72
  go_wp2_with fail
  refine (C.out _).mono ?_
  rintro e _ ⟨rfl, rfl⟩
  go_wp2
  go_ret
  exact ⟨rfl, rfl⟩
theorem tz64_10 (w : World) (hc : w.cell? ⟨5, 1, none⟩ = some (.int .u8 1)) : Calls Tryd.prog 77 #[.int .u64 10] w fun e w' => e = .returned (.int .i64 1) ∧ w' = w := by
  have key : IntKind.u64.wrap (bits BinOp.and IntKind.u64 10 (IntKind.u64.wrap (-10)) * 285870213051353865) / 288230376151711744 = 1 := by decide +kernel
  go_enter Tryd.func77, Tryd.ntmps77
  go_wp2_with (simp only [key])
  go_ret
  exact ⟨rfl, rfl⟩
theorem tz_10 (w : World) (hc : w.cell? ⟨5, 1, none⟩ = some (.int .u8 1)) : Calls Tryd.prog 73 #[.int .u64 10] w fun e w' => e = .returned (.int .i64 1) ∧ w' = w := by
  have C : Hid (Calls Tryd.prog 77 #[.int .u64 10] w fun e w' => e = .returned (.int .i64 1) ∧ w' = w) := tz64_10 w hc
  clear hc
  go_enter Tryd.func73, Tryd.ntmps73
  go_wp2_with fail
  refine Calls.mono C.out ?_
  rintro e _ ⟨rfl, rfl⟩
  go_wp2
  go_ret
  exact ⟨rfl, rfl⟩
theorem oc64_10 (w : World) : Calls Tryd.prog 79 #[.int .u64 10] w fun e w' => e = .returned (.int .i64 2) ∧ w' = w := by
  go_enter Tryd.func79, Tryd.ntmps79
  go_wp2
  go_ret
  exact ⟨by kernel_rfl, rfl⟩
theorem may14_10 (w : World) : Calls Tryd.prog 72 #[.int .i64 14, .int .i64 10] w fun e w' => e = .returned (.bool false) ∧ w' = w := by
  have C : Hid (∀ w, Calls Tryd.prog 75 #[.int .u64 10] w fun e w' => e = .returned (.int .i64 2) ∧ w' = w) := fun w => by
    have C : Hid (∀ w, Calls Tryd.prog 79 #[.int .u64 10] w fun e w' => e = .returned (.int .i64 2) ∧ w' = w) := fun w => oc64_10 w
    go_enter Tryd.func75, Tryd.ntmps75
    go_wp2_with fail
    refine Calls.mono (C.out _) ?_
    rintro e _ ⟨rfl, rfl⟩
    go_wp2
    go_ret
    exact ⟨rfl, rfl⟩
  go_enter Tryd.func72, Tryd.ntmps72
  go_wp2_with fail
  refine (C.out _).mono ?_
  rintro e _ ⟨rfl, rfl⟩
  go_wp2
  go_ret
  exact ⟨rfl, rfl⟩
theorem tz64_11 (w : World) (hc : w.cell? ⟨5, 0, none⟩ = some (.int .u8 0)) : Calls Tryd.prog 77 #[.int .u64 11] w fun e w' => e = .returned (.int .i64 0) ∧ w' = w := by
  have key : IntKind.u64.wrap (bits BinOp.and IntKind.u64 11 (IntKind.u64.wrap (-11)) * 285870213051353865) / 288230376151711744 = 0 := by decide +kernel
  go_enter Tryd.func77, Tryd.ntmps77
  go_wp2_with (simp only [key])
  go_ret
  exact ⟨rfl, rfl⟩
theorem tz_11 (w : World) (hc : w.cell? ⟨5, 0, none⟩ = some (.int .u8 0)) : Calls Tryd.prog 73 #[.int .u64 11] w fun e w' => e = .returned (.int .i64 0) ∧ w' = w := by
  have C : Hid (Calls Tryd.prog 77 #[.int .u64 11] w fun e w' => e = .returned (.int .i64 0) ∧ w' = w) := tz64_11 w hc
  clear hc
  go_enter Tryd.func73, Tryd.ntmps73
  go_wp2_with fail
  refine Calls.mono C.out ?_
  rintro e _ ⟨rfl, rfl⟩
  go_wp2
  go_ret
  exact ⟨rfl, rfl⟩
theorem oc64_11 (w : World) : Calls Tryd.prog 79 #[.int .u64 11] w fun e w' => e = .returned (.int .i64 3) ∧ w' = w := by
  go_enter Tryd.func79, Tryd.ntmps79
  go_wp2
  go_ret
  exact ⟨by kernel_rfl, rfl⟩
theorem may14_11 (w : World) : Calls Tryd.prog 72 #[.int .i64 14, .int .i64 11] w fun e w' => e = .returned (.bool false) ∧ w' = w := by
  have C : Hid (∀ w, Calls Tryd.prog 75 #[.int .u64 11] w fun e w' => e = .returned (.int .i64 3) ∧ w' = w) := fun w => by
    have C : Hid (∀ w, Calls Tryd.prog 79 #[.int .u64 11] w fun e w' => e = .returned (.int .i64 3) ∧ w' = w) := fun w => oc64_11 w
    go_enter Tryd.func75, Tryd.ntmps75
    go_wp2_with fail
    refine Calls.mono (C.out _) ?_
    rintro e _ ⟨rfl, rfl⟩
    go_wp2
    go_ret
    exact ⟨rfl, rfl⟩
  go_enter Tryd.func72, Tryd.ntmps72
  go_wp2_with fail
  refine (C.out _).mono ?_
  rintro e _ ⟨rfl, rfl⟩
  go_wp2
  go_ret
  exact ⟨rfl, rfl⟩
theorem tz64_12 (w : World) (hc : w.cell? ⟨5, 3, none⟩ = some (.int .u8 2)) : Calls Tryd.prog 77 #[.int .u64 12] w fun e w' => e = .returned (.int .i64 2) ∧ w' = w := by
  have key : IntKind.u64.wrap (bits BinOp.and IntKind.u64 12 (IntKind.u64.wrap (-12)) * 285870213051353865) / 288230376151711744 = 3 := by decide +kernel
  go_enter Tryd.func77, Tryd.ntmps77
  go_wp2_with (simp only [key])
  go_ret
  exact ⟨rfl, rfl⟩
theorem tz_12 (w : World) (hc : w.cell? ⟨5, 3, none⟩ = some (.int .u8 2)) : Calls Tryd.prog 73 #[.int .u64 12] w fun e w' => e = .returned (.int .i64 2) ∧ w' = w := by
  have C : Hid (Calls Tryd.prog 77 #[.int .u64 12] w fun e w' => e = .returned (.int .i64 2) ∧ w' = w) := tz64_12 w hc
  clear hc
  go_enter Tryd.func73, Tryd.ntmps73
  go_wp2_with fail
  refine Calls.mono C.out ?_
  rintro e _ ⟨rfl, rfl⟩
  go_wp2
  go_ret
  exact ⟨rfl, rfl⟩
theorem oc64_12 (w : World) : Calls Tryd.prog 79 #[.int .u64 12] w fun e w' => e = .returned (.int .i64 2) ∧ w' = w := by
  go_enter Tryd.func79, Tryd.ntmps79
  go_wp2
  go_ret
  exact ⟨by kernel_rfl, rfl⟩
theorem may14_12 (w : World) : Calls Tryd.prog 72 #[.int .i64 14, .int .i64 12] w fun e w' => e = .returned (.bool false) ∧ w' = w := by
  have C : Hid (∀ w, Calls Tryd.prog 75 #[.int .u64 12] w fun e w' => e = .returned (.int .i64 2) ∧ w' = w) := fun w => by
    have C : Hid (∀ w, Calls Tryd.prog 79 #[.int .u64 12] w fun e w' => e = .returned (.int .i64 2) ∧ w' = w) := fun w => oc64_12 w
    go_enter Tryd.func75, Tryd.ntmps75
    go_wp2_with fail
    refine Calls.mono (C.out _) ?_
    rintro e _ ⟨rfl, rfl⟩
    go_wp2
    go_ret
    exact ⟨rfl, rfl⟩
  go_enter Tryd.func72, Tryd.ntmps72
  go_wp2_with fail
  refine (C.out _).mono ?_
  rintro e _ ⟨rfl, rfl⟩
  go_wp2
  go_ret
  exact ⟨rfl, rfl⟩
theorem tz64_13 (w : World) (hc : w.cell? ⟨5, 0, none⟩ = some (.int .u8 0)) : Calls Tryd.prog 77 #[.int .u64 13] w fun e w' => e = .returned (.int .i64 0) ∧ w' = w := by
  have key : IntKind.u64.wrap (bits BinOp.and IntKind.u64 13 (IntKind.u64.wrap (-13)) * 285870213051353865) / 288230376151711744 = 0 := by decide +kernel
  go_enter Tryd.func77, Tryd.ntmps77
  go_wp2_with (simp only [key])
  go_ret
  exact ⟨rfl, rfl⟩
theorem tz_13 (w : World) (hc : w.cell? ⟨5, 0, none⟩ = some (.int .u8 0)) : Calls Tryd.prog 73 #[.int .u64 13] w fun e w' => e = .returned (.int .i64 0) ∧ w' = w := by
  have C : Hid (Calls Tryd.prog 77 #[.int .u64 13] w fun e w' => e = .returned (.int .i64 0) ∧ w' = w) := tz64_13 w hc
  clear hc
  go_enter Tryd.func73, Tryd.ntmps73
  go_wp2_with fail
  refine Calls.mono C.out ?_
  rintro e _ ⟨rfl, rfl⟩
  go_wp2
  go_ret
  exact ⟨rfl, rfl⟩
theorem oc64_13 (w : World) : Calls Tryd.prog 79 #[.int .u64 13] w fun e w' => e = .returned (.int .i64 3) ∧ w' = w := by
  go_enter Tryd.func79, Tryd.ntmps79
  go_wp2
  go_ret
  exact ⟨by kernel_rfl, rfl⟩
theorem may14_13 (w : World) : Calls Tryd.prog 72 #[.int .i64 14, .int .i64 13] w fun e w' => e = .returned (.bool false) ∧ w' = w := by
  have C : Hid (∀ w, Calls Tryd.prog 75 #[.int .u64 13] w fun e w' => e = .returned (.int .i64 3) ∧ w' = w) := fun w => by
    have C : Hid (∀ w, Calls Tryd.prog 79 #[.int .u64 13] w fun e w' => e = .returned (.int .i64 3) ∧ w' = w) := fun w => oc64_13 w
    go_enter Tryd.func75, Tryd.ntmps75
    go_wp2_with fail
    refine Calls.mono (C.out _) ?_
    rintro e _ ⟨rfl, rfl⟩
    go_wp2
    go_ret
    exact ⟨rfl, rfl⟩
  go_enter Tryd.func72, Tryd.ntmps72
  go_wp2_with fail
  refine (C.out _).mono ?_
  rintro e _ ⟨rfl, rfl⟩
  go_wp2
  go_ret
  exact ⟨rfl, rfl⟩
theorem tz64_14 (w : World) (hc : w.cell? ⟨5, 1, none⟩ = some (.int .u8 1)) : Calls Tryd.prog 77 #[.int .u64 14] w fun e w' => e = .returned (.int .i64 1) ∧ w' = w := by
  have key : IntKind.u64.wrap (bits BinOp.and IntKind.u64 14 (IntKind.u64.wrap (-14)) * 285870213051353865) / 288230376151711744 = 1 := by decide +kernel
  go_enter Tryd.func77, Tryd.ntmps77
  go_wp2_with (simp only [key])
  go_ret
  exact ⟨rfl, rfl⟩
theorem tz_14 (w : World) (hc : w.cell? ⟨5, 1, none⟩ = some (.int .u8 1)) : Calls Tryd.prog 73 #[.int .u64 14] w fun e w' => e = .returned (.int .i64 1) ∧ w' = w := by
  have C : Hid (Calls Tryd.prog 77 #[.int .u64 14] w fun e w' => e = .returned (.int .i64 1) ∧ w' = w) := tz64_14 w hc
  clear hc
  go_enter Tryd.func73, Tryd.ntmps73
  go_wp2_with fail
  refine Calls.mono C.out ?_
  rintro e _ ⟨rfl, rfl⟩
  go_wp2
  go_ret
  exact ⟨rfl, rfl⟩
theorem oc64_14 (w : World) : Calls Tryd.prog 79 #[.int .u64 14] w fun e w' => e = .returned (.int .i64 3) ∧ w' = w := by
  go_enter Tryd.func79, Tryd.ntmps79
  go_wp2
  go_ret
  exact ⟨by kernel_rfl, rfl⟩
theorem may14_14 (w : World) : Calls Tryd.prog 72 #[.int .i64 14, .int .i64 14] w fun e w' => e = .returned (.bool false) ∧ w' = w := by
  have C : Hid (∀ w, Calls Tryd.prog 75 #[.int .u64 14] w fun e w' => e = .returned (.int .i64 3) ∧ w' = w) := fun w => by
    have C : Hid (∀ w, Calls Tryd.prog 79 #[.int .u64 14] w fun e w' => e = .returned (.int .i64 3) ∧ w' = w) := fun w => oc64_14 w
    go_enter Tryd.func75, Tryd.ntmps75
    go_wp2_with fail
    refine Calls.mono (C.out _) ?_
    rintro e _ ⟨rfl, rfl⟩
    go_wp2
    go_ret
    exact ⟨rfl, rfl⟩
  go_enter Tryd.func72, Tryd.ntmps72
  go_wp2_with fail
  refine (C.out _).mono ?_
  rintro e _ ⟨rfl, rfl⟩
  go_wp2
  go_ret
  exact ⟨rfl, rfl⟩
theorem tz64_15 (w : World) (hc : w.cell? ⟨5, 0, none⟩ = some (.int .u8 0)) : Calls Tryd.prog 77 #[.int .u64 15] w fun e w' => e = .returned (.int .i64 0) ∧ w' = w := by
  have key : IntKind.u64.wrap (bits BinOp.and IntKind.u64 15 (IntKind.u64.wrap (-15)) * 285870213051353865) / 288230376151711744 = 0 := by decide +kernel
  go_enter Tryd.func77, Tryd.ntmps77
  go_wp2_with (simp only [key])
  go_ret
  exact ⟨rfl, rfl⟩
theorem tz_15 (w : World) (hc : w.cell? ⟨5, 0, none⟩ = some (.int .u8 0)) : Calls Tryd.prog 73 #[.int .u64 15] w fun e w' => e = .returned (.int .i64 0) ∧ w' = w := by
  have C : Hid (Calls Tryd.prog 77 #[.int .u64 15] w fun e w' => e = .returned (.int .i64 0) ∧ w' = w) := tz64_15 w hc
  clear hc
  go_enter Tryd.func73, Tryd.ntmps73
  go_wp2_with fail
  refine Calls.mono C.out ?_
  rintro e _ ⟨rfl, rfl⟩
  go_wp2
  go_ret
  exact ⟨rfl, rfl⟩
theorem oc64_15 (w : World) : Calls Tryd.prog 79 #[.int .u64 15] w fun e w' => e = .returned (.int .i64 4) ∧ w' = w := by
  go_enter Tryd.func79, Tryd.ntmps79
  go_wp2
  go_ret
  exact ⟨by kernel_rfl, rfl⟩
theorem may14_15 (w : World) : Calls Tryd.prog 72 #[.int .i64 14, .int .i64 15] w fun e w' => e = .returned (.bool false) ∧ w' = w := by
  have C : Hid (∀ w, Calls Tryd.prog 75 #[.int .u64 15] w fun e w' => e = .returned (.int .i64 4) ∧ w' = w) := fun w => by
    have C : Hid (∀ w, Calls Tryd.prog 79 #[.int .u64 15] w fun e w' => e = .returned (.int .i64 4) ∧ w' = w) := fun w => oc64_15 w
    go_enter Tryd.func75, Tryd.ntmps75
    go_wp2_with fail
    refine Calls.mono (C.out _) ?_
    rintro e _ ⟨rfl, rfl⟩
    go_wp2
    go_ret
    exact ⟨rfl, rfl⟩
  go_enter Tryd.func72, Tryd.ntmps72
  go_wp2_with fail
  refine (C.out _).mono ?_
  rintro e _ ⟨rfl, rfl⟩
  go_wp2
  go_ret
  exact ⟨rfl, rfl⟩
theorem tz_c (m : Nat) (h1 : 1 ≤ m) (h2 : m ≤ 15) (w : World) (HT : LT w) : Calls Tryd.prog 73 #[.int .u64 m] w fun e w' => e = .returned (.int .i64 (tzN m : Nat)) ∧ w' = w := by
  rcases (show m = 1 ∨ m = 2 ∨ m = 3 ∨ m = 4 ∨ m = 5 ∨ m = 6 ∨ m = 7 ∨ m = 8 ∨ m = 9 ∨ m = 10 ∨ m = 11 ∨ m = 12 ∨ m = 13 ∨ m = 14 ∨ m = 15 by omega) with rfl | rfl | rfl | rfl | rfl | rfl | rfl | rfl | rfl | rfl | rfl | rfl | rfl | rfl | rfl
  · exact tz_1 w (HT.tz 0 (by decide))
  · exact tz_2 w (HT.tz 1 (by decide))
  · exact tz_3 w (HT.tz 0 (by decide))
  · exact tz_4 w (HT.tz 3 (by decide))
  · exact tz_5 w (HT.tz 0 (by decide))
  · exact tz_6 w (HT.tz 1 (by decide))
  · exact tz_7 w (HT.tz 0 (by decide))
  · exact tz_8 w (HT.tz 7 (by decide))
  · exact tz_9 w (HT.tz 0 (by decide))
  · exact tz_10 w (HT.tz 1 (by decide))
  · exact tz_11 w (HT.tz 0 (by decide))
  · exact tz_12 w (HT.tz 3 (by decide))
  · exact tz_13 w (HT.tz 0 (by decide))
  · exact tz_14 w (HT.tz 1 (by decide))
  · exact tz_15 w (HT.tz 0 (by decide))
theorem tzN_le (m : Nat) (h1 : 1 ≤ m) (h2 : m ≤ 15) : tzN m ≤ 3 := by
  rcases (show m = 1 ∨ m = 2 ∨ m = 3 ∨ m = 4 ∨ m = 5 ∨ m = 6 ∨ m = 7 ∨ m = 8 ∨ m = 9 ∨ m = 10 ∨ m = 11 ∨ m = 12 ∨ m = 13 ∨ m = 14 ∨ m = 15 by omega) with rfl | rfl | rfl | rfl | rfl | rfl | rfl | rfl | rfl | rfl | rfl | rfl | rfl | rfl | rfl <;> decide
theorem may_c (c m : Nat) (hc : c < 16) (h1 : 1 ≤ m) (h2 : m ≤ 15) (w : World) : Calls Tryd.prog 72 #[.int .i64 c, .int .i64 m] w fun e w' => e = .returned (.bool (itOk c m)) ∧ w' = w := by
  rcases (show c ≤ 13 ∨ c = 14 ∨ c = 15 by omega) with q | rfl | rfl
  · have hi : itOk c m = true := by unfold itOk; simp [nbeq, nble, h1, q]; omega
    rw [hi]
    have k1 : decide ((m : Int) < 1) = false := by simp; omega
    have k2 : decide ((m : Int) > 15) = false := by simp; omega
    have k3 : ((c : Int) == 14) = false := by simp; omega
    have k4 : decide ((c : Int) ≥ 0) = true := by simp
    have k5 : decide ((c : Int) ≤ 13) = true := by simp; omega
    go_enter Tryd.func72, Tryd.ntmps72
    go_wp2
    go_ret
    exact ⟨by first | rfl | simp, rfl⟩
  · rcases (show m = 1 ∨ m = 2 ∨ m = 3 ∨ m = 4 ∨ m = 5 ∨ m = 6 ∨ m = 7 ∨ m = 8 ∨ m = 9 ∨ m = 10 ∨ m = 11 ∨ m = 12 ∨ m = 13 ∨ m = 14 ∨ m = 15 by omega) with rfl | rfl | rfl | rfl | rfl | rfl | rfl | rfl | rfl | rfl | rfl | rfl | rfl | rfl | rfl
    · exact may14_1 w
    · exact may14_2 w
    · exact may14_3 w
    · exact may14_4 w
    · exact may14_5 w
    · exact may14_6 w
    · exact may14_7 w
    · exact may14_8 w
    · exact may14_9 w
    · exact may14_10 w
    · exact may14_11 w
    · exact may14_12 w
    · exact may14_13 w
    · exact may14_14 w
    · exact may14_15 w
  · have hi : itOk 15 m = false := by unfold itOk; simp [nbeq, nble]
    rw [hi]
    have k1 : decide ((m : Int) < 1) = false := by simp; omega
    have k2 : decide ((m : Int) > 15) = false := by simp; omega
    go_enter Tryd.func72, Tryd.ntmps72
    go_wp2
    go_ret
    exact ⟨by first | rfl | simp, rfl⟩
theorem cnot_c (c : Int) (w : World) : Calls Tryd.prog 74 #[.int .i64 c] w fun e w' => (∃ x : Int, e = .returned (.int .i64 x)) ∧ w' = w := by
  go_enter Tryd.func74, Tryd.ntmps74
  go_wp2
  trace_state
  all_goals (go_ret; exact ⟨⟨_, rfl⟩, rfl⟩)
end Go.Proofs.YtblcklknlfofgaaDoor
