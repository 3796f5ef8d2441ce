/- MemApart's last region, walked apart. -/
import Derived.Test.YtbpjhaaenoaclaaMem15
import Derived.Test.YtbpjhaaenoaclaaMem10
import Derived.Deep.RegionHeld
namespace Go.Proofs.Ytbpjhaaenoaclaa
open Go.ChangeShapes Go.WideShapes Go.ChangeAt Go.RowKit
set_option linter.unusedVariables false
set_option linter.unusedSimpArgs false
attribute [local go_sem ↓] Go.wp_at_zero Go.wp_at_succ

/-- A region of a function's text, by its number. -/
def regAtNo (n : Nat) : Code → Option Code
  | .region id ops d => if id = n then some (.region id ops d) else none
  | .seq a b => match regAtNo n a with
    | some c => some c
    | none => regAtNo n b
  | .cond _ a b => match regAtNo n a with
    | some c => some c
    | none => regAtNo n b
  | .block _ c => regAtNo n c
  | .loop c => regAtNo n c
  | _ => none

set_option maxHeartbeats 16000000 in
set_option maxRecDepth 1000000 in
theorem last_reg (w5 : World) (p p5 nb L cn cap0 cap2 cap3 : Nat) (q5 : Nat → Nat) (R : Int → List Int) (Bs : List Reg) (G : List (List Int)) (t0 t1 t2 t3 t4 t5 t6 t9 t10 t12 t13 t14 t15 t16 t17 t18 t19 t20 t21 t22 t23 t24 t25 t26 t27 t28 t29 t30 t31 t32 t33 t34 t35 t36 t37 t38 t39 t40 t41 t42 t43 t44 t45 t46 t47 t48 t49 t50 t51 t52 t53 t54 t55 t56 t57 t58 t59 t60 t61 t62 t63 t64 t65 t66 t67 t68 t69 t70 t71 t72 t73 t74 t75 t76 t77 t78 t79 t80 t81 t82 t83 t84 t85 t86 t87 t88 t89 t90 t91 t92 t93 t94 t95 t96 t97 t98 t99 t100 t101 t102 t103 t104 t105 t106 t107 t108 t109 t110 t111 t112 t113 t114 t115 t116 t117 t118 t119 t120 t121 t122 t123 t124 t125 t126 t127 t128 t129 t130 t131 t132 t133 t134 t135 : Value) (K : Act → World → Prop) (post : Ending → World → Prop)
    (CB : Hid (∀ iv : Int, (iv = 0 ∨ iv = 1 ∨ iv = 2 ∨ iv = 3) → ∀ w6, Below w5.heap.size w5 w6 → Calls Try.prog 22 #[.pointer (some ⟨p, 0, none⟩), .int .i64 iv] w6 fun e w' =>
          ∃ A c, e = .returned (.slice A (R iv).length c) ∧ (convert 22 9 (.slice A (R iv).length c)).run Try.prog w' = .ok (.string (strS (R iv))) w' ∧ Below w5.heap.size w5 w'))
    (CR : Hid (∀ w6, Below w5.heap.size w5 w6 → Calls Try.prog 24 #[.pointer (some ⟨p, 0, none⟩)] w6 fun e w' => ∃ A c, e = .returned (.slice A Bs.length c) ∧ (∃ S, RL w' S (.slice A Bs.length c) Bs G) ∧ Below w5.heap.size w5 w'))
    (CS : Hid (∀ v w6, Below w5.heap.size w5 w6 → (∃ S, RL w6 S v Bs G) → Calls Try.prog 23 #[v, .slice (some ⟨L, 0, none⟩) 4 4] w6 fun e w' => e = .returned (.bool true) ∧ Below w5.heap.size w5 w'))
    (n1' : w5.cell? ⟨p5, 1, none⟩ = some (.slice (some ⟨nb, 0, none⟩) 4 cn)) (m0 : w5.cell? ⟨nb, 0, none⟩ = some (.slice (some ⟨q5 0, 0, none⟩) (R 0).length cap0)) (m2' : w5.cell? ⟨nb, 2, none⟩ = some (.slice (some ⟨q5 2, 0, none⟩) (R 2).length cap2)) (m3 : w5.cell? ⟨nb, 3, none⟩ = some (.slice (some ⟨q5 3, 0, none⟩) (R 3).length cap3))
    (V0 : Hid (∀ w6, Below w5.heap.size w5 w6 → (convert 22 9 (.slice (some ⟨q5 0, 0, none⟩) (R 0).length cap0)).run Try.prog w6 = .ok (.string (strS (R 0))) w6)) (V2 : Hid (∀ w6, Below w5.heap.size w5 w6 → (convert 22 9 (.slice (some ⟨q5 2, 0, none⟩) (R 2).length cap2)).run Try.prog w6 = .ok (.string (strS (R 2))) w6)) (V3 : Hid (∀ w6, Below w5.heap.size w5 w6 → (convert 22 9 (.slice (some ⟨q5 3, 0, none⟩) (R 3).length cap3)).run Try.prog w6 = .ok (.string (strS (R 3))) w6))
    (h256 : (R 1).length = 256)
    (hK : Hid (∀ (u87 u88 u89 u90 u91 u92 u93 u94 u95 u96 u97 u98 u99 u100 u101 u102 u103 u104 u105 u106 u107 u108 u109 u110 u111 u112 u113 u114 u115 u116 u117 u118 u119 u120 u121 u122 u123 u124 u125 u126 u127 u128 u129 u130 u131 u132 u133 u134 u135 : Value) (w' : World), Below w5.heap.size w5 w' → K ⟨#[t0, t1, t2, t3, t4, t5, .bool true, .slice (some ⟨L, 0, none⟩) 4 4, .pointer (some ⟨p, 0, none⟩), t9, t10, .pointer (some ⟨p5, 0, none⟩), t12, t13, t14, t15, t16, t17, t18, t19, t20, t21, t22, t23, t24, t25, t26, t27, t28, t29, t30, t31, t32, t33, t34, t35, t36, t37, t38, t39, t40, t41, t42, t43, t44, t45, t46, t47, t48, t49, t50, t51, t52, t53, t54, t55, t56, t57, t58, t59, t60, t61, t62, t63, t64, t65, t66, t67, t68, t69, t70, t71, t72, t73, t74, t75, t76, t77, t78, t79, t80, t81, t82, t83, t84, t85, t86, u87, u88, u89, u90, u91, u92, u93, u94, u95, u96, u97, u98, u99, u100, u101, u102, u103, u104, u105, u106, u107, u108, u109, u110, u111, u112, u113, u114, u115, u116, u117, u118, u119, u120, u121, u122, u123, u124, u125, u126, u127, u128, u129, u130, u131, u132, u133, u134, u135], []⟩ w')) :
    Code.wp Try.prog ((Try.f7.body.bind (regAtNo 16)).getD .skip) (Exit.then K (bodyPost Try.prog Try.f7 post)) ⟨#[t0, t1, t2, t3, t4, t5, t6, .slice (some ⟨L, 0, none⟩) 4 4, .pointer (some ⟨p, 0, none⟩), t9, t10, .pointer (some ⟨p5, 0, none⟩), t12, t13, t14, t15, t16, t17, t18, t19, t20, t21, t22, t23, t24, t25, t26, t27, t28, t29, t30, t31, t32, t33, t34, t35, t36, t37, t38, t39, t40, t41, t42, t43, t44, t45, t46, t47, t48, t49, t50, t51, t52, t53, t54, t55, t56, t57, t58, t59, t60, t61, t62, t63, t64, t65, t66, t67, t68, t69, t70, t71, t72, t73, t74, t75, t76, t77, t78, t79, t80, t81, t82, t83, t84, t85, t86, t87, t88, t89, t90, t91, t92, t93, t94, t95, t96, t97, t98, t99, t100, t101, t102, t103, t104, t105, t106, t107, t108, t109, t110, t111, t112, t113, t114, t115, t116, t117, t118, t119, t120, t121, t122, t123, t124, t125, t126, t127, t128, t129, t130, t131, t132, t133, t134, t135], []⟩ w5 := by
  have HLL : Hid (p5 < w5.heap.size ∧ nb < w5.heap.size) := ⟨World.block_lt_of_cell? w5 _ n1', World.block_lt_of_cell? w5 _ m0⟩
  conv => arg 2; whnf
  go_region_held (fun w' => w'.cell? ⟨p5, 1, none⟩ = some (.slice (some ⟨nb, 0, none⟩) 4 cn) ∧ w'.cell? ⟨nb, 0, none⟩ = some (.slice (some ⟨q5 0, 0, none⟩) (R 0).length cap0) ∧ w'.cell? ⟨nb, 2, none⟩ = some (.slice (some ⟨q5 2, 0, none⟩) (R 2).length cap2) ∧ w'.cell? ⟨nb, 3, none⟩ = some (.slice (some ⟨q5 3, 0, none⟩) (R 3).length cap3) ∧
      (convert 22 9 (.slice (some ⟨q5 0, 0, none⟩) (R 0).length cap0)).run Try.prog w' = .ok (.string (strS (R 0))) w' ∧ (convert 22 9 (.slice (some ⟨q5 2, 0, none⟩) (R 2).length cap2)).run Try.prog w' = .ok (.string (strS (R 2))) w' ∧ (convert 22 9 (.slice (some ⟨q5 3, 0, none⟩) (R 3).length cap3)).run Try.prog w' = .ok (.string (strS (R 3))) w')
    (first
      | exact ⟨n1', m0, m2', m3, V0.out _ (Below.refl _ _).drew, V2.out _ (Below.refl _ _).drew, V3.out _ (Below.refl _ _).drew⟩
      | exact ⟨(hb8.cell HLL.out.1).trans n1', (hb8.cell HLL.out.2).trans m0, (hb8.cell HLL.out.2).trans m2', (hb8.cell HLL.out.2).trans m3, V0.out _ hb8, V2.out _ hb8, V3.out _ hb8⟩
      | go_keep)
    (first
      | (go_at_call 22; refine (CB.out _ (by decide) _ (by first | exact hb8 | exact (Below.refl _ _).drew)).mono ?_; rintro e w8 ⟨A8, c8, rfl, hv8, hb8⟩)
      | (go_at_call 24; refine (CR.out _ (by exact hb8)).mono ?_; rintro e w8 ⟨A9, c9, rfl, hrl9, hb8⟩)
      | (go_at_call 23; refine (CS.out _ _ (by exact hb8) hrl9).mono ?_; rintro e w8 ⟨rfl, hb8⟩))
  exact hK.out _ _ _ _ _ _ _ _ _ _ _ _ _ _ _ _ _ _ _ _ _ _ _ _ _ _ _ _ _ _ _ _ _ _ _ _ _ _ _ _ _ _ _ _ _ _ _ _ _ _ hb8
end Go.Proofs.Ytbpjhaaenoaclaa
