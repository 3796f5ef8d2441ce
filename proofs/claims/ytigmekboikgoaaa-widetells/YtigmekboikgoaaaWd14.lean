/- Stage 9: known of stage 9. -/
import Derived.Test.YtigmekboikgoaaaWd13
namespace Go.Proofs.Ytigmekboikgoaaa
open Go.ChangeShapes Go.WideShapes Go.ChangeAt Go.RowKit
set_option linter.unusedVariables false
set_option linter.unusedSimpArgs false

set_option maxHeartbeats 4000000 in
set_option maxRecDepth 100000 in
theorem known_c (w : World) : Calls Try.prog 6 #[] w fun e w' => e = .returned (.bool true) ∧ Below w.heap.size w w' := by
  have D1 : Hid (∀ w, Calls Try.prog 8 #[.int .u16 62016, .int .u16 5, .bool false] w fun e w' => e = .returned (Cel.iv movI).val ∧ Below w.heap.size w w') := fun w => decF_c 62016 5 (by decide) (by decide) movI 4064280581 rfl aloneX_c w
  have D2 : Hid (∀ w, Calls Try.prog 8 #[.int .u16 65535, .int .u16 65535, .bool false] w fun e w' => e = .returned (Value.agg #[.int .i64 64, .bool true, .bool false, .int .i64 14, .int .i64 0, .int .i64 0, .int .i64 0, .int .i64 0, .int .u32 4294967295, .bool false, .int .i64 0, .int .i64 0, .int .i64 0, .bool false, .bool false]) ∧ Below w.heap.size w w') := fun w => decF_c 65535 65535 (by decide) (by decide) (noneI 64 4294967295) 4294967295 rfl aloneF_c w
  have D3 : ∃ R : Int, Hid (∀ w, Calls Try.prog 8 #[.int .u16 61440, .int .u16 53248, .bool false] w fun e w' => e = .returned (Value.agg #[.int .i64 55, .bool true, .bool false, .int .i64 14, .int .i64 0, .int .i64 0, .int .i64 0, .int .i64 0, .int .u32 R, .bool false, .int .i64 0, .int .i64 0, .int .i64 0, .bool false, .bool false]) ∧ Below w.heap.size w w') := ⟨signS (farX 4026585088 : Nat) 25, fun w => decF_c 61440 53248 (by decide) (by decide) (brI 55 14 (signS (farX 4026585088 : Nat) 25)) 4026585088 rfl (fun w => (brI3 4026585088 rfl rfl) ▸ aloneJ_c 4026585088 (by decide) rfl rfl w) w⟩
  obtain ⟨R, D3⟩ := D3
  have E1 : Hid (∀ w, Calls Try.prog 10 #[(Cel.iv movI).val] w fun e w' => e = .returned (.tuple #[.int .u16 62016, .int .u16 5, .bool true]) ∧ Below w.heap.size w w') := fun w => encY_c movI 4064280581 (by decide) movI wordX_c aloneX_c rfl (by rw [ivEq_self]; rfl) w
  have E0 : Hid (∀ w, Calls Try.prog 10 #[(Value.agg #[.int .i64 13, .bool false, .bool false, .int .i64 0, .int .i64 0, .int .i64 0, .int .i64 0, .int .i64 0, .int .u32 0, .bool false, .int .i64 0, .int .i64 0, .int .i64 0, .bool false, .bool false])] w fun e w' => e = .returned (.tuple #[.int .u16 0, .int .u16 0, .bool false]) ∧ Below w.heap.size w w') := fun w => encN_c zeroM 3931045888 (by decide) (startI 13 0 0) word0_c aloneZ_c rfl rfl w
  go_enter Try.func6, Try.ntmps6
  have S := SH.start w
  go_wp2_with (first
    | (go_at_call 8; (first | with_reducible refine (D1.out _).mono ?_ | with_reducible refine (D2.out _).mono ?_ | with_reducible refine (D3.out _).mono ?_); rintro e wf ⟨rfl, hbf⟩; replace S := S.below hbf; clear hbf)
    | ((with_reducible refine wpl_isDst 41 ?_); refine wpl_dst 41 rfl (.int .i64 64) (by kernel_rfl) rfl ?_)
    | ((with_reducible refine wpl_isDst 46 ?_); refine wpl_dst 46 rfl (.int .i64 55) (by kernel_rfl) rfl ?_)
    | (go_at_call 10; (first | with_reducible refine (E1.out _).mono ?_ | with_reducible refine (E0.out _).mono ?_); rintro e wf ⟨rfl, hbf⟩; replace S := S.below hbf; clear hbf)
    | ((with_reducible refine wpl_isDst 1 ?_); refine SH.alloc (L := []) S rfl 30 rfl (Cel.iv IV.zero) zeroIV ?_; clear S; intro b1 w1 S)
    | ((with_reducible refine wpl_isStore ?_); (refine S.storeAll rfl 30 _ _ rfl b1 (Cel.iv movI) rfl rfl 0 _ rfl rfl (one_iv _) (szIV _) ?_; clear S; intro w2 S; simp only [List.set_cons_zero] at S))
    | ((with_reducible refine wpl_isDst 10 ?_); (refine S.ldAll 30 _ rfl b1 rfl 0 (Cel.iv movI) rfl _ Try.underlying30 rfl (szIV _) rfl ?_))
    | ((with_reducible refine wpl_isDst 21 ?_); (refine S.ldAll 30 _ rfl b1 rfl 0 (Cel.iv movI) rfl _ Try.underlying30 rfl (szIV _) rfl ?_))
    | ((with_reducible refine wpl_isDst 23 ?_); refine wpl_eqlB _ _ _ rfl movI movI rfl rfl true (ivEq_self _) rfl ?_))
  go_ret
  exact ⟨rfl, S.low⟩
end Go.Proofs.Ytigmekboikgoaaa
