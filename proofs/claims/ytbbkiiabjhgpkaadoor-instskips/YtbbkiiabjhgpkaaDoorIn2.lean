/- Stage 7: an instruction as it is handed about; what is asked of its fields. -/
import Derived.Test.YtbbkiiabjhgpkaaDoorIn1
import Derived.Below
namespace Go.Proofs.YtbbkiiabjhgpkaaDoor
open Go.RowKit
set_option linter.unusedVariables false
set_option linter.unusedSimpArgs false

structure IV where
  op : Int
  wide : Bool
  s : Bool
  cond : Int
  d : Int
  n : Int
  m : Int
  a : Int
  imm : Int
  useImm : Bool
  sh : Int
  amt : Int
  list : Int
  back : Bool
  down : Bool
def IV.cellsA (i : IV) : Array Value := #[.int .i64 i.op, .bool i.wide, .bool i.s, .int .i64 i.cond, .int .i64 i.d, .int .i64 i.n, .int .i64 i.m, .int .i64 i.a, .int .u32 i.imm, .bool i.useImm, .int .i64 i.sh, .int .i64 i.amt, .int .i64 i.list, .bool i.back, .bool i.down]
def IV.val (i : IV) : Value := .agg #[.int .i64 i.op, .bool i.wide, .bool i.s, .int .i64 i.cond, .int .i64 i.d, .int .i64 i.n, .int .i64 i.m, .int .i64 i.a, .int .u32 i.imm, .bool i.useImm, .int .i64 i.sh, .int .i64 i.amt, .int .i64 i.list, .bool i.back, .bool i.down]
def secondS (i : IV) : Int := if i.useImm then 0 else 4
set_option maxHeartbeats 2000000 in
theorem second_c (i : IV) (w : World) : Calls Tryd.prog 45 #[i.val] w fun e w' => e = .returned (.int .i64 (secondS i)) ∧ w' = w.alloc (Obj.cells i.cellsA 31) := by
  obtain ⟨op, wide, s, cond, d, n, m, a, imm, useImm, sh, amt, list, back, down⟩ := i
  unfold IV.val IV.cellsA
  simp only [secondS]
  cases useImm <;>
  · go_enter Tryd.func45, Tryd.ntmps45
    go_wp2
    go_ret
    exact ⟨rfl, rfl⟩
set_option maxHeartbeats 2000000 in
theorem size_c (i : IV) (w : World) : Calls Tryd.prog 19 #[i.val] w fun e w' => e = .returned (.int .u32 (if i.wide then 4 else 2)) ∧ w' = w.alloc (Obj.cells i.cellsA 31) := by
  obtain ⟨op, wide, s, cond, d, n, m, a, imm, useImm, sh, amt, list, back, down⟩ := i
  unfold IV.val IV.cellsA
  simp only []
  cases wide <;>
  · go_enter Tryd.func19, Tryd.ntmps19
    go_wp2
    go_ret
    exact ⟨rfl, rfl⟩
def carriesS (i : IV) : Bool := if i.useImm then i.a == 1 else i.sh != 0
set_option maxHeartbeats 2000000 in
theorem carries_c (i : IV) (w : World) : Calls Tryd.prog 40 #[i.val] w fun e w' => e = .returned (.bool (carriesS i)) ∧ w' = w.alloc (Obj.cells i.cellsA 31) := by
  obtain ⟨op, wide, s, cond, d, n, m, a, imm, useImm, sh, amt, list, back, down⟩ := i
  unfold IV.val IV.cellsA
  simp only [carriesS]
  cases useImm <;>
  · go_enter Tryd.func40, Tryd.ntmps40
    go_wp2
    go_ret
    exact ⟨by first | rfl | simp, rfl⟩
def loadsI (o : Int) : Bool := decide (44 ≤ o ∧ o ≤ 48) || o == 52
def storesI (o : Int) : Bool := decide (49 ≤ o ∧ o ≤ 51) || o == 53
set_option maxHeartbeats 2000000 in
theorem loadsI_c (i : IV) (w : World) : Calls Tryd.prog 21 #[i.val] w fun e w' => e = .returned (.bool (loadsI i.op)) ∧ w' = w.alloc (Obj.cells i.cellsA 31) := by
  obtain ⟨o, wide, s, cond, d, n, m, a, imm, useImm, sh, amt, list, back, down⟩ := i
  unfold IV.val IV.cellsA
  simp only []
  rcases (show o < 44 ∨ (44 ≤ o ∧ o ≤ 48) ∨ (49 ≤ o ∧ o ≠ 52) ∨ o = 52 by omega) with h | h | h | h
  · have t0 : decide (44 ≤ o) = false := by simp; omega
    have t1 : (o == 52) = false := by simp; omega
    have hr : loadsI o = false := by simp [loadsI, t1]; omega
    rw [hr]
    go_enter Tryd.func21, Tryd.ntmps21
    go_wp2
    go_ret
    exact ⟨rfl, rfl⟩
  · have t0 : decide (44 ≤ o) = true := by simp; omega
    have t2 : decide (o ≤ 48) = true := by simp; omega
    have hr : loadsI o = true := by simp [loadsI]; omega
    rw [hr]
    go_enter Tryd.func21, Tryd.ntmps21
    go_wp2
    go_ret
    exact ⟨rfl, rfl⟩
  · have t0 : decide (44 ≤ o) = true := by simp; omega
    have t2 : decide (o ≤ 48) = false := by simp; omega
    have t1 : (o == 52) = false := by simp; omega
    have hr : loadsI o = false := by simp [loadsI, t1]; omega
    rw [hr]
    go_enter Tryd.func21, Tryd.ntmps21
    go_wp2
    go_ret
    exact ⟨rfl, rfl⟩
  · subst h
    have hr : loadsI 52 = true := by rfl
    rw [hr]
    go_enter Tryd.func21, Tryd.ntmps21
    go_wp2
    go_ret
    exact ⟨rfl, rfl⟩
end Go.Proofs.YtbbkiiabjhgpkaaDoor
