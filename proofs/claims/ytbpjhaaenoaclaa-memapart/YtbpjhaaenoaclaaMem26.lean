/- What MemApart lays first, walked apart. -/
import Derived.Test.YtbpjhaaenoaclaaMem23
namespace Go.Proofs.Ytbpjhaaenoaclaa
open Go.ChangeShapes Go.WideShapes Go.ChangeAt Go.RowKit
set_option linter.unusedVariables false
set_option linter.unusedSimpArgs false
attribute [local go_sem ↓] Go.wp_at_zero Go.wp_at_succ

def lay4 : Obj := Obj.cells #[.int .u8 1, .int .u8 2, .int .u8 3, .int .u8 4] 5
theorem four_laid (w : World) : BL (w.alloc lay4).drew (fun b => b < (w.alloc lay4).drew.heap.size) (.slice (some ⟨w.heap.size, 0, none⟩) 4 4) [1, 2, 3, 4] :=
  (four_bytes w).kept fun _ _ _ => rfl

set_option maxHeartbeats 8000000 in
set_option maxRecDepth 1000000 in
theorem lay_reg4 (A1 A2 : Option Addr) (n1 c1 n2 c2 m1 m2 : Nat) (w w1 : World) (Bs : List Reg) (G : List (List Int)) (d1 d2 : List Int) (s2 t3 t4 t5 t6 t7 t8 t9 t10 t11 t12 t13 t14 t15 t16 t17 t18 t19 t20 t21 t22 t23 t24 t25 t26 t27 t28 t29 t30 t31 t32 t33 t34 t35 t36 t37 t38 t39 t40 t41 t42 t43 t44 t45 t46 t47 t48 t49 t50 t51 t52 t53 t54 t55 t56 t57 t58 t59 t60 t61 t62 t63 t64 t65 t66 t67 t68 t69 t70 t71 t72 t73 t74 t75 t76 t77 t78 t79 t80 t81 t82 t83 t84 t85 t86 t87 t88 t89 t90 t91 t92 t93 t94 t95 t96 t97 t98 t99 t100 t101 t102 t103 t104 t105 t106 t107 t108 t109 t110 t111 t112 t113 t114 t115 t116 t117 t118 t119 t120 t121 t122 t123 t124 t125 t126 t127 t128 t129 t130 t131 t132 t133 t134 t135 : Value) (K : Act → World → Prop) (post : Ending → World → Prop)
    (hm1 : (¬ (256 : Int) < n1 ∧ m1 = n1) ∨ ((256 : Int) < n1 ∧ m1 = 256)) (hm2 : (¬ (128 : Int) < n2 ∧ m2 = n2) ∨ ((128 : Int) < n2 ∧ m2 = 128)) (hc1 : n1 ≤ c1) (hc2 : n2 ≤ c2)
    (HS1 : Hid (∀ wx, wx = (w1.alloc lay4).drew → Calls Try.prog 9 #[.slice (some ⟨w1.heap.size, 0, none⟩) 4 4, .slice A1 m1 c1, .slice A2 m2 c2, .slice none 0 0] wx fun e w' => SeatPost wx [1, 2, 3, 4] d1 d2 [] e w' ∧ Below w.heap.size w wx))
    (HBs : Hid (Bs = seatBs 4 d1.length d2.length 0 ∧ G = [[1, 2, 3, 4], d1, d2, []]))
    (hK : Hid (∀ (u28 u29 u30 u31 u32 u33 u34 u35 u36 u37 u38 u39 v : Value) (w' : World), layRel w Bs G v w' → K ⟨#[.slice A1 n1 c1, .slice A2 n2 c2, s2, t3, t4, t5, t6, v, t8, t9, t10, t11, t12, t13, t14, t15, t16, t17, t18, t19, t20, t21, t22, t23, t24, t25, t26, t27, u28, u29, u30, u31, u32, u33, u34, u35, u36, u37, u38, u39, t40, t41, t42, t43, t44, t45, t46, t47, t48, t49, t50, t51, t52, t53, t54, t55, t56, t57, t58, t59, t60, t61, t62, t63, t64, t65, t66, t67, t68, t69, t70, t71, t72, t73, t74, t75, t76, t77, t78, t79, t80, t81, t82, t83, t84, t85, t86, t87, t88, t89, t90, t91, t92, t93, t94, t95, t96, t97, t98, t99, t100, t101, t102, t103, t104, t105, t106, t107, t108, t109, t110, t111, t112, t113, t114, t115, t116, t117, t118, t119, t120, t121, t122, t123, t124, t125, t126, t127, t128, t129, t130, t131, t132, t133, t134, t135], []⟩ w')) :
    Code.wp Try.prog ((Try.f7.body.bind (findReg 5)).getD .skip) (Exit.then K (bodyPost Try.prog Try.f7 post)) ⟨#[.slice A1 n1 c1, .slice A2 n2 c2, s2, t3, t4, t5, t6, t7, t8, t9, t10, t11, t12, t13, t14, t15, t16, t17, t18, t19, t20, t21, t22, t23, t24, t25, t26, t27, t28, t29, t30, t31, t32, t33, t34, t35, t36, t37, t38, t39, t40, t41, t42, t43, t44, t45, t46, t47, t48, t49, t50, t51, t52, t53, t54, t55, t56, t57, t58, t59, t60, t61, t62, t63, t64, t65, t66, t67, t68, t69, t70, t71, t72, t73, t74, t75, t76, t77, t78, t79, t80, t81, t82, t83, t84, t85, t86, t87, t88, t89, t90, t91, t92, t93, t94, t95, t96, t97, t98, t99, t100, t101, t102, t103, t104, t105, t106, t107, t108, t109, t110, t111, t112, t113, t114, t115, t116, t117, t118, t119, t120, t121, t122, t123, t124, t125, t126, t127, t128, t129, t130, t131, t132, t133, t134, t135], []⟩ w1 := by
  conv => arg 2; whnf
  rcases hm1 with ⟨hle1, rfl⟩ | ⟨hgt1, rfl⟩ <;> rcases hm2 with ⟨hle2, rfl⟩ | ⟨hgt2, rfl⟩
  all_goals
    first
      | (have k1 : (m1 : Int) ≤ c1 := by omega
         have k1' : (0 : Int) ≤ (m1 : Int) := by omega
         have k1f : ((256 : Int) < (m1 : Int)) = False := eq_false (by omega))
      | (have k1 : (256 : Int) ≤ c1 := by omega)
    first
      | (have k2 : (m2 : Int) ≤ c2 := by omega
         have k2' : (0 : Int) ≤ (m2 : Int) := by omega
         have k2f : ((128 : Int) < (m2 : Int)) = False := eq_false (by omega))
      | (have k2 : (128 : Int) ≤ c2 := by omega)
    go_region_law
      (first
        | (go_simp; go_at_call 9; refine (HS1.out _ rfl).mono ?_; rintro e w2 ⟨⟨rfl, hrl, hb2⟩, hwx⟩))
    all_goals
      have HE : layRel w Bs G (.slice (some ⟨(w1.alloc lay4).drew.heap.size, 0, none⟩) 4 4) w2 := ⟨_, rfl, by rw [HBs.out.1, HBs.out.2]; exact hrl, hwx.trans (hb2.mono hwx.size)⟩
      have hs : (w1.alloc lay4).drew.heap.size = w1.heap.size + 1 := alloc_size' w1 lay4
      rw [hs] at HE
      exact hK.out _ _ _ _ _ _ _ _ _ _ _ _ _ _ HE
end Go.Proofs.Ytbpjhaaenoaclaa
