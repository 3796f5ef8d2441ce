/- Stage 8: halves of branches -/
import Derived.Test.YtblcklknlfofgaaDoorThN
import Derived.Test.YtblcklknlfofgaaDoorThP
namespace Go.Proofs.YtblcklknlfofgaaDoor
open Go.ChangeShapes Go.WideShapes Go.ChangeAt Go.RowKit
set_option linter.unusedVariables false
set_option linter.unusedSimpArgs false

theorem u16ii (x : Nat) : (x : Int) = ((x : Nat) : Int) := rfl
def OKi (i : IV) : Prop := 0 ≤ i.imm ∧ i.imm ≤ 4294967295
def brN (c v : Int) : List Nat := [53248 + putN c 8 4 + putN (v / 2) 0 8, 57344 + putN (v / 2) 0 11]
theorem tdiv_pos (v k : Int) (h : 0 ≤ v) : v.tdiv k = v / k := Int.tdiv_eq_ediv_of_nonneg h
set_option maxHeartbeats 4000000 in
set_option maxRecDepth 100000 in
theorem branchB_c (i : IV) (hop : i.op = 54) (hi : OKi i) (w : World) : Calls Tryd.prog 52 #[i.val] w fun e w' => HRes w (brN i.cond i.imm) e w' := by
  have a1 : putN i.cond 8 4 < 4096 := putN_lt _ 8 4
  have a2 : putN (i.imm / 2) 0 8 < 256 := putN_lt _ 0 8
  have a3 : putN (i.imm / 2) 0 11 < 2048 := putN_lt _ 0 11
  have m1 : putN i.cond 8 4 % 256 = 0 := putN_mod _ 8 4 8 (by decide)
  have C1 : Hid (∀ w, Calls Tryd.prog 68 #[.int .i64 i.cond, .int .i64 8, .int .i64 4] w fun e w' => e = .returned (.int .u16 (putN i.cond 8 4 : Nat)) ∧ w' = w) := fun w => put_8_4 _ w
  have C2 : Hid (∀ w, Calls Tryd.prog 68 #[.int .i64 (i.imm / 2), .int .i64 0, .int .i64 8] w fun e w' => e = .returned (.int .u16 (putN (i.imm / 2) 0 8 : Nat)) ∧ w' = w) := fun w => put_0_8 _ w
  have C3 : Hid (∀ w, Calls Tryd.prog 68 #[.int .i64 (i.imm / 2), .int .i64 0, .int .i64 11] w fun e w' => e = .returned (.int .u16 (putN (i.imm / 2) 0 11 : Nat)) ∧ w' = w) := fun w => put_0_11 _ w
  have HB : Hid (brN i.cond i.imm = [53248 + putN i.cond 8 4 + putN (i.imm / 2) 0 8, 57344 + putN (i.imm / 2) 0 11]) := rfl
  unfold HRes
  rw [HB.out]
  clear HB
  generalize putN i.cond 8 4 = p1 at *
  generalize putN (i.imm / 2) 0 8 = p2 at *
  generalize putN (i.imm / 2) 0 11 = p3 at *
  have j1 : bits .or .u16 53248 (p1 : Int) = ((53248 + p1 : Nat) : Int) := u16_join 53248 p1 12 (by decide) (by decide) a1 (by omega)
  have j2 : bits .or .u16 ((53248 + p1 : Nat) : Int) (p2 : Int) = ((53248 + p1 + p2 : Nat) : Int) := u16_join (53248 + p1) p2 8 (by omega) (by omega) a2 (by omega)
  have j3 : bits .or .u16 57344 (p3 : Int) = ((57344 + p3 : Nat) : Int) := u16_join 57344 p3 11 (by decide) (by decide) a3 (by omega)
  generalize 53248 + p1 = q1 at *
  generalize q1 + p2 = q2 at *
  generalize 57344 + p3 = q3 at *
  obtain ⟨hi0, hi1⟩ := hi
  have ht := tdiv_pos i.imm 2 hi0
  go_enter Tryd.func52, Tryd.ntmps52
  have S := SH.start w
  go_wp2_with (first
    | (go_at_call 68; (first | with_reducible refine (C1.out _).mono ?_ | with_reducible refine (C2.out _).mono ?_ | with_reducible refine (C3.out _).mono ?_); rintro e wf ⟨rfl, rfl⟩)
    | ((with_reducible refine wpl_is ?_); first
      | (refine SH.box (L := []) S rfl 29 _ rfl (Cel.iv i) rfl ?_; clear S; intro b2 w0 S)
      | (refine S.ld 3 _ rfl _ 0 rfl 0 (Cel.iv i) rfl _ rfl _ Tryd.underlying3 rfl rfl ?_)
      | (refine S.ld 3 _ rfl _ 3 rfl 0 (Cel.iv i) rfl _ rfl _ Tryd.underlying3 rfl rfl ?_)
      | (refine S.ld 3 _ rfl _ 4 rfl 0 (Cel.iv i) rfl _ rfl _ Tryd.underlying3 rfl rfl ?_)
      | (refine S.ld 3 _ rfl _ 5 rfl 0 (Cel.iv i) rfl _ rfl _ Tryd.underlying3 rfl rfl ?_)
      | (refine S.ld 3 _ rfl _ 6 rfl 0 (Cel.iv i) rfl _ rfl _ Tryd.underlying3 rfl rfl ?_)
      | (refine S.ld 27 _ rfl _ 8 rfl 0 (Cel.iv i) rfl _ rfl _ Tryd.underlying27 rfl rfl ?_)
      | (refine S.ld 3 _ rfl _ 12 rfl 0 (Cel.iv i) rfl _ rfl _ Tryd.underlying3 rfl rfl ?_)
      | (refine S.sliceAny rfl 25 2 _ rfl (uc [q2, q3]) 22 (by kernel_rfl) ?_; clear S; intro g w1 S)))
  (try simp only [Exit.inBlock, Exit.then])
  go_ret
  exact ⟨_, rfl, HLs.of_blk (S.at (i := 0) rfl).1, S.low⟩
end Go.Proofs.YtblcklknlfofgaaDoor
