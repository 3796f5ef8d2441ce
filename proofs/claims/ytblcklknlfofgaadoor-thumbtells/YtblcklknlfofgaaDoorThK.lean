/- Stage 8: sourdinelaw8.known, walked. -/
import Derived.Test.YtblcklknlfofgaaDoorThRS
namespace Go.Proofs.YtblcklknlfofgaaDoor
open Go.ChangeShapes Go.WideShapes Go.ChangeAt Go.RowKit
set_option linter.unusedVariables false
set_option linter.unusedSimpArgs false

theorem wpl_eqlB {ops : Array Oper} {rest : List Oper} {o : Oper} {a : Act} {Q : Exit → Act → World → Prop} {w : World} (x y : Operand) (t : TypeId) (ho : o.op = .binOp .eql 29 x y t) (i j : IV) (hx : a.eval x = i.val) (hy : a.eval y = j.val) (b : Bool) (hb : ivEq i j = b) (hw : Region.wanted o (yielded ops a.tmps) = true) (h : wpList Tryd.prog ops Q rest (a.put o.dst (.bool b)) w) : wpList Tryd.prog ops Q (o :: rest) a w := by
  subst hb
  exact wpl_eql x y t ho i j hx hy hw h
theorem wpl_neqB {ops : Array Oper} {rest : List Oper} {o : Oper} {a : Act} {Q : Exit → Act → World → Prop} {w : World} (x y : Operand) (t : TypeId) (ho : o.op = .binOp .neq 29 x y t) (i j : IV) (hx : a.eval x = i.val) (hy : a.eval y = j.val) (b : Bool) (hb : (!ivEq i j) = b) (hw : Region.wanted o (yielded ops a.tmps) = true) (h : wpList Tryd.prog ops Q rest (a.put o.dst (.bool b)) w) : wpList Tryd.prog ops Q (o :: rest) a w := by
  subst hb
  exact wpl_neq x y t ho i j hx hy hw h
def I0 : IV := ⟨13, false, true, 14, 0, 0, 0, 0, 5, true, 0, 0, 0, false, false⟩
theorem dec0 : decN 8197 false = nImm 13 0 0 5 true := by kernel_rfl
theorem dec1 : decN 56832 false = nNone 64 56832 := by kernel_rfl
theorem dec2 : decN 8197 true = nImm 13 0 0 5 false := by kernel_rfl
theorem enc0 : encN I0 false [three5 0 0 I0.m I0.d, two8 8192 I0.d I0.imm, hiN 17920 I0.d I0.m] = (8197, true) := by kernel_rfl
theorem lt16 (row : Nat) (v n d : Int) (h : row ≤ 63488) : row + putN v 6 5 + putN n 3 3 + putN d 0 3 < 65536 := by
  have a1 : putN v 6 5 < 2048 := putN_lt _ 6 5
  have a2 : putN n 3 3 < 64 := putN_lt _ 3 3
  have a3 : putN d 0 3 < 8 := putN_lt _ 0 3
  have m1 : putN v 6 5 % 64 = 0 := putN_mod _ 6 5 6 (by decide)
  have m2 : putN n 3 3 % 8 = 0 := putN_mod _ 3 3 3 (by decide)
  omega
set_option maxHeartbeats 4000000 in
set_option maxRecDepth 100000 in
theorem known_c (w : World) (HT : LT w) : Calls Tryd.prog 8 #[] w fun e w' => e = .returned (.bool true) ∧ Below w.heap.size w w' := by
  have D0 : Hid (∀ w1, LT w1 → Calls Tryd.prog 12 #[.int .u16 8197, .bool false] w1 fun e w' => e = .returned I0.val ∧ Below w1.heap.size w1 w') := fun w1 h1 => by
    have := decode_c 8197 (by decide) false w1 h1
    rw [dec0] at this
    exact this
  have D1 : Hid (∀ w1, LT w1 → Calls Tryd.prog 12 #[.int .u16 56832, .bool false] w1 fun e w' => e = .returned (.agg #[.int .i64 64, .bool false, .bool false, .int .i64 14, .int .i64 0, .int .i64 0, .int .i64 0, .int .i64 0, .int .u32 56832, .bool false, .int .i64 0, .int .i64 0, .int .i64 0, .bool false, .bool false]) ∧ Below w1.heap.size w1 w') := fun w1 h1 => by
    have := decode_c 56832 (by decide) false w1 h1
    rw [dec1] at this
    exact this
  have D2 : Hid (∀ w1, LT w1 → Calls Tryd.prog 12 #[.int .u16 8197, .bool true] w1 fun e w' => e = .returned (.agg #[.int .i64 13, .bool false, .bool false, .int .i64 14, .int .i64 0, .int .i64 0, .int .i64 0, .int .i64 0, .int .u32 5, .bool true, .int .i64 0, .int .i64 0, .int .i64 0, .bool false, .bool false]) ∧ Below w1.heap.size w1 w') := fun w1 h1 => by
    have := decode_c 8197 (by decide) true w1 h1
    rw [dec2] at this
    exact this
  have E0 : Hid (∀ w1, LT w1 → Calls Tryd.prog 14 #[(Cel.iv I0).val, .bool false] w1 fun e w' => e = .returned (.tuple #[.int .u16 8197, .bool true]) ∧ Below w1.heap.size w1 w') := fun w1 h1 => by
    have := encode_of I0 false [three5 0 0 I0.m I0.d, two8 8192 I0.d I0.imm, hiN 17920 I0.d I0.m] (by
      intro x hx
      simp only [List.mem_cons, List.not_mem_nil, or_false] at hx
      rcases hx with rfl | rfl | rfl <;> decide) (by decide) w1 h1 (fun w2 _ => halves13_c I0 rfl ⟨by decide, by decide⟩ w2)
    rw [enc0] at this
    exact this
  have E1 : Hid (∀ w1, LT w1 → Calls Tryd.prog 14 #[.agg #[.int .i64 0, .bool false, .bool false, .int .i64 0, .int .i64 0, .int .i64 0, .int .i64 0, .int .i64 0, .int .u32 0, .bool false, .int .i64 0, .int .i64 0, .int .i64 0, .bool false, .bool false], .bool false] w1 fun e w' => e = .returned (.tuple #[.int .u16 0, .bool false]) ∧ Below w1.heap.size w1 w') := fun w1 h1 =>
    encode_of IV.zero false [] (by intro x hx; cases hx) (by decide) w1 h1 (fun w2 _ => halves0_c IV.zero rfl w2)
  have W0 : Hid (∀ w1, Calls Tryd.prog 10 #[.int .u16 61440] w1 fun e w' => e = .returned (.bool true) ∧ w' = w1) := fun w1 => wide_c 61440 (by decide) w1
  have W1 : Hid (∀ w1, Calls Tryd.prog 10 #[.int .u16 57344] w1 fun e w' => e = .returned (.bool false) ∧ w' = w1) := fun w1 => wide_c 57344 (by decide) w1
  go_enter Tryd.func8, Tryd.ntmps8
  have S := SH.start w
  go_wp2_with (first
  | (go_at_call 12; (first | with_reducible refine (D0.out _ (HT.next S.low)).mono ?_ | with_reducible refine (D1.out _ (HT.next S.low)).mono ?_ | with_reducible refine (D2.out _ (HT.next S.low)).mono ?_); rintro e wf ⟨rfl, hbf⟩; replace S := S.below hbf; clear hbf)
  | (go_at_call 14; (first | with_reducible refine (E0.out _ (HT.next S.low)).mono ?_ | with_reducible refine (E1.out _ (HT.next S.low)).mono ?_); rintro e wf ⟨rfl, hbf⟩; replace S := S.below hbf; clear hbf)
  | (go_at_call 10; (first | with_reducible refine (W0.out _).mono ?_ | with_reducible refine (W1.out _).mono ?_); rintro e wf ⟨rfl, rfl⟩)
  | ((with_reducible refine wpl_is ?_); first
    | (refine SH.alloc (L := []) S rfl 29 rfl (Cel.iv IV.zero) zeroIV ?_; clear S; intro b1 w1 S)
    | (refine S.storeAll rfl 29 _ _ rfl _ (Cel.iv I0) rfl rfl 0 _ rfl rfl (one_iv _) (szIV _) ?_; clear S; intro w2 S; simp only [List.set_cons_zero] at S)
    | (refine S.ldAll 29 _ rfl _ rfl 0 (Cel.iv I0) rfl _ Tryd.underlying29 rfl (szIV _) rfl ?_)
    | (refine wpl_dst 40 rfl (.int .i64 64) (by kernel_rfl) rfl ?_)
    | (refine wpl_dst 45 rfl (.bool false) (by kernel_rfl) rfl ?_)
    | (refine wpl_eqlB _ _ _ rfl I0 I0 rfl rfl true (ivEq_self _) rfl ?_)))
  (try simp only [Exit.inBlock, Exit.then])
  go_ret
  exact ⟨rfl, S.low⟩
end Go.Proofs.YtblcklknlfofgaaDoor
