/- Stage 8: Decode, Wide, walked. -/
import Derived.Test.YtblcklknlfofgaaDoorThA
import Derived.Test.YtblcklknlfofgaaDoorThW
namespace Go.Proofs.YtblcklknlfofgaaDoor
open Go.ChangeShapes Go.WideShapes Go.ChangeAt Go.RowKit
set_option linter.unusedVariables false
set_option linter.unusedSimpArgs false

set_option maxHeartbeats 4000000 in
set_option maxRecDepth 100000 in
theorem decode_c (h : Nat) (hh : h < 65536) (b : Bool) (w : World) (HT : LT w) : Calls Tryd.prog 12 #[.int .u16 h, .bool b] w fun e w' => Says w (decN h b) e w' := by
  cases b
  all_goals
    unfold Says decN
    simp only [cond_true, cond_false]
    go_enter Tryd.func12, Tryd.ntmps12
    have S := SH.start w
    go_wp2_with (first
      | (go_at_call 17; refine (alone_c h hh _ (HT.next S.low)).mono ?_; rintro e wf ⟨rfl, hbf⟩; replace S := S.below hbf; clear hbf)
      | (go_at_call 18; refine (within_c (aloneN h) h hh _).mono ?_; rintro e wf ⟨rfl, hbf⟩; replace S := S.below hbf; clear hbf)
      | ((with_reducible refine wpl_is ?_); first
        | (refine S.alloc rfl 29 rfl (Cel.iv IV.zero) zeroIV ?_; clear S; intro b1 w1 S)
        | (refine S.ldAll 29 _ rfl _ rfl 0 (Cel.iv (aloneN h).iv) rfl _ Tryd.underlying29 rfl (szIV _) rfl ?_)
        | (refine S.storeAll rfl 29 _ _ rfl _ (Cel.iv (aloneN h).iv) rfl rfl 0 _ rfl rfl (one_iv _) (szIV _) ?_; clear S; intro w2 S; simp only [List.set_cons_zero] at S)
        | (refine S.storeAll rfl 29 _ _ rfl _ (Cel.iv (aloneN h).iv) rfl rfl 1 _ rfl rfl (one_iv _) (szIV _) ?_; clear S; intro w2 S; simp only [List.set_cons_zero, List.set_cons_succ] at S)
        | (refine S.storeAll rfl 29 _ _ rfl _ (Cel.iv (withinN (aloneN h) h).iv) rfl rfl 1 _ rfl rfl (one_iv _) (szIV _) ?_; clear S; intro w2 S; simp only [List.set_cons_zero, List.set_cons_succ] at S)))
    (try simp only [Exit.inBlock, Exit.then])
    refine bodyPost_ret (S.results rfl _ _ rfl 1 _ rfl _ Tryd.underlying29 rfl (szIV _)) rfl ⟨rfl, S.low⟩
def wideN (h : Nat) : Bool := Nat.blt 28 (h / 2048)
theorem wide_c (h : Nat) (hh : h < 65536) (w : World) : Calls Tryd.prog 10 #[.int .u16 h] w fun e w' => e = .returned (.bool (wideN h)) ∧ w' = w := by
  have rb := row_bits h hh
  have key : decide (57344 < (h : Int) / 2048 * 2048) = wideN h := by
    rw [wideN, nblt]
    by_cases q : 28 < h / 2048
    · simp [q]; omega
    · simp [q]; omega
  go_enter Tryd.func10, Tryd.ntmps10
  go_wp2
  go_ret
  exact ⟨by rw [← key]; rfl, rfl⟩
end Go.Proofs.YtblcklknlfofgaaDoor
