/- The contracts of package cond's plain functions, walked: each returns what the plain arithmetic says and leaves the world as it was. -/
import Derived.Test.YtmgnmoohfnaekaaDoorCPure
import Derived.WalkKit
import Derived.ProofKit
import Derived.OpenShut
import Derived.Deep.QuietTactic
import Derived.BigQuiet
namespace Go.Proofs.YtmgnmoohfnaekaaDoor
open Go.ChangeShapes Go.WideShapes Go.ChangeAt Go.RowKit
set_option linter.unusedVariables false
set_option linter.unusedSimpArgs false

theorem results_tmp4 {fn : Func} {t u v x : Tmp} (h : fn.results = #[.tmp t, .tmp u, .tmp v, .tmp x]) (tmps : Array Value) (P : Program) (w : World) :
    (results fn tmps).run P w = .ok (.tuple #[tmps.getD t undef, tmps.getD u undef, tmps.getD v undef, tmps.getD x undef]) w := by
  simp [results, h]

theorem parts_c (f : Int) (w : World) : Calls Tryd.prog 18 #[.int .i64 f] w fun e w' => e = .returned (.tuple #[.bool (bitS f 8), .bool (bitS f 4), .bool (bitS f 2), .bool (bitS f 1)]) ∧ w' = w := by
  unfold bitS
  go_enter Tryd.func18, Tryd.ntmps18
  go_wp2
  (try simp only [Exit.inBlock, Exit.then])
  refine bodyPost_ret (results_tmp4 rfl _ _ _) rfl ?_
  exact ⟨rfl, rfl⟩
theorem flag_c (b : Bool) (x : Int) (w : World) : Calls Tryd.prog 20 #[.bool b, .int .i64 x] w fun e w' => e = .returned (.int .i64 (flagS b x)) ∧ w' = w := by
  cases b
  · go_enter Tryd.func20, Tryd.ntmps20
    go_wp2
    go_ret
    exact ⟨rfl, rfl⟩
  · go_enter Tryd.func20, Tryd.ntmps20
    go_wp2
    go_ret
    exact ⟨rfl, rfl⟩
theorem of_c (n z k v : Bool) (w : World) : Calls Tryd.prog 15 #[.bool n, .bool z, .bool k, .bool v] w fun e w' => e = .returned (.int .i64 (ofS n z k v)) ∧ w' = w := by
  rw [← of_or]
  have F1 : Hid _ := fun w => flag_c n 8 w
  have F2 : Hid _ := fun w => flag_c z 4 w
  have F3 : Hid _ := fun w => flag_c k 2 w
  have F4 : Hid _ := fun w => flag_c v 1 w
  generalize flagS n 8 = x1 at *
  generalize flagS z 4 = x2 at *
  generalize flagS k 2 = x3 at *
  generalize flagS v 1 = x4 at *
  go_enter Tryd.func15, Tryd.ntmps15
  go_wp2_with fail
  refine (F1.out _).mono ?_
  rintro e _ ⟨rfl, rfl⟩
  go_wp2_with fail
  refine (F2.out _).mono ?_
  rintro e _ ⟨rfl, rfl⟩
  go_wp2_with fail
  refine (F3.out _).mono ?_
  rintro e _ ⟨rfl, rfl⟩
  go_wp2_with fail
  refine (F4.out _).mono ?_
  rintro e _ ⟨rfl, rfl⟩
  go_wp2
  go_ret
  exact ⟨rfl, rfl⟩
theorem not_c (c : Int) (w : World) : Calls Tryd.prog 11 #[.int .i64 c] w fun e w' => e = .returned (.int .i64 (notS c)) ∧ w' = w := by
  unfold notS
  rcases (show c < 0 ∨ 13 < c ∨ (0 ≤ c ∧ c ≤ 13) by omega) with h | h | ⟨h, h'⟩
  · rw [if_pos h]
    go_enter Tryd.func11, Tryd.ntmps11
    go_wp2
    go_ret
    exact ⟨rfl, rfl⟩
  · rw [if_neg (by omega), if_pos h]
    go_enter Tryd.func11, Tryd.ntmps11
    go_wp2
    go_ret
    exact ⟨rfl, rfl⟩
  · rw [if_neg (by omega), if_neg (by omega)]
    go_enter Tryd.func11, Tryd.ntmps11
    go_wp2
    go_ret
    exact ⟨rfl, rfl⟩

theorem result_c (x : Int) (k o : Bool) (x0 : 0 ≤ x) (x1 : x < 4294967296) (w : World) : Calls Tryd.prog 13 #[.int .u32 x, .bool k, .bool o] w fun e w' => e = .returned (.int .i64 (resultS x k o)) ∧ w' = w := by
  have ht : (x / 2147483648 == 1) = topS x := by
    unfold topS
    by_cases h : 2147483648 ≤ x <;> simp [h] <;> omega
  have C : Hid _ := fun w => of_c (topS x) (x == 0) k o w
  unfold resultS
  go_enter Tryd.func13, Tryd.ntmps13
  go_wp2_with (simp only [ht])
  refine (C.out _).mono ?_
  rintro e _ ⟨rfl, rfl⟩
  go_wp2
  go_ret
  exact ⟨rfl, rfl⟩
theorem holds_0 (f : Int) (n z k v : Bool) (H : Hid (∀ w, Calls Tryd.prog 18 #[.int .i64 f] w fun e w' => e = .returned (.tuple #[.bool n, .bool z, .bool k, .bool v]) ∧ w' = w)) (w : World) :
    Calls Tryd.prog 7 #[.int .i64 0, .int .i64 f] w fun e w' => e = .returned (.bool (z)) ∧ w' = w := by
  go_enter Tryd.func7, Tryd.ntmps7
  go_wp2_with fail
  refine (H.out _).mono ?_
  rintro e _ ⟨rfl, rfl⟩
  go_wp2
  all_goals (go_ret; exact ⟨by first | rfl | (simp [*]) | (cases n <;> cases v <;> cases z <;> cases k <;> simp_all), rfl⟩)
theorem holds_1 (f : Int) (n z k v : Bool) (H : Hid (∀ w, Calls Tryd.prog 18 #[.int .i64 f] w fun e w' => e = .returned (.tuple #[.bool n, .bool z, .bool k, .bool v]) ∧ w' = w)) (w : World) :
    Calls Tryd.prog 7 #[.int .i64 1, .int .i64 f] w fun e w' => e = .returned (.bool (!z)) ∧ w' = w := by
  go_enter Tryd.func7, Tryd.ntmps7
  go_wp2_with fail
  refine (H.out _).mono ?_
  rintro e _ ⟨rfl, rfl⟩
  go_wp2
  all_goals (go_ret; exact ⟨by first | rfl | (simp [*]) | (cases n <;> cases v <;> cases z <;> cases k <;> simp_all), rfl⟩)
theorem holds_2 (f : Int) (n z k v : Bool) (H : Hid (∀ w, Calls Tryd.prog 18 #[.int .i64 f] w fun e w' => e = .returned (.tuple #[.bool n, .bool z, .bool k, .bool v]) ∧ w' = w)) (w : World) :
    Calls Tryd.prog 7 #[.int .i64 2, .int .i64 f] w fun e w' => e = .returned (.bool (k)) ∧ w' = w := by
  go_enter Tryd.func7, Tryd.ntmps7
  go_wp2_with fail
  refine (H.out _).mono ?_
  rintro e _ ⟨rfl, rfl⟩
  go_wp2
  all_goals (go_ret; exact ⟨by first | rfl | (simp [*]) | (cases n <;> cases v <;> cases z <;> cases k <;> simp_all), rfl⟩)
theorem holds_3 (f : Int) (n z k v : Bool) (H : Hid (∀ w, Calls Tryd.prog 18 #[.int .i64 f] w fun e w' => e = .returned (.tuple #[.bool n, .bool z, .bool k, .bool v]) ∧ w' = w)) (w : World) :
    Calls Tryd.prog 7 #[.int .i64 3, .int .i64 f] w fun e w' => e = .returned (.bool (!k)) ∧ w' = w := by
  go_enter Tryd.func7, Tryd.ntmps7
  go_wp2_with fail
  refine (H.out _).mono ?_
  rintro e _ ⟨rfl, rfl⟩
  go_wp2
  all_goals (go_ret; exact ⟨by first | rfl | (simp [*]) | (cases n <;> cases v <;> cases z <;> cases k <;> simp_all), rfl⟩)
theorem holds_4 (f : Int) (n z k v : Bool) (H : Hid (∀ w, Calls Tryd.prog 18 #[.int .i64 f] w fun e w' => e = .returned (.tuple #[.bool n, .bool z, .bool k, .bool v]) ∧ w' = w)) (w : World) :
    Calls Tryd.prog 7 #[.int .i64 4, .int .i64 f] w fun e w' => e = .returned (.bool (n)) ∧ w' = w := by
  go_enter Tryd.func7, Tryd.ntmps7
  go_wp2_with fail
  refine (H.out _).mono ?_
  rintro e _ ⟨rfl, rfl⟩
  go_wp2
  all_goals (go_ret; exact ⟨by first | rfl | (simp [*]) | (cases n <;> cases v <;> cases z <;> cases k <;> simp_all), rfl⟩)
theorem holds_5 (f : Int) (n z k v : Bool) (H : Hid (∀ w, Calls Tryd.prog 18 #[.int .i64 f] w fun e w' => e = .returned (.tuple #[.bool n, .bool z, .bool k, .bool v]) ∧ w' = w)) (w : World) :
    Calls Tryd.prog 7 #[.int .i64 5, .int .i64 f] w fun e w' => e = .returned (.bool (!n)) ∧ w' = w := by
  go_enter Tryd.func7, Tryd.ntmps7
  go_wp2_with fail
  refine (H.out _).mono ?_
  rintro e _ ⟨rfl, rfl⟩
  go_wp2
  all_goals (go_ret; exact ⟨by first | rfl | (simp [*]) | (cases n <;> cases v <;> cases z <;> cases k <;> simp_all), rfl⟩)
theorem holds_6 (f : Int) (n z k v : Bool) (H : Hid (∀ w, Calls Tryd.prog 18 #[.int .i64 f] w fun e w' => e = .returned (.tuple #[.bool n, .bool z, .bool k, .bool v]) ∧ w' = w)) (w : World) :
    Calls Tryd.prog 7 #[.int .i64 6, .int .i64 f] w fun e w' => e = .returned (.bool (v)) ∧ w' = w := by
  go_enter Tryd.func7, Tryd.ntmps7
  go_wp2_with fail
  refine (H.out _).mono ?_
  rintro e _ ⟨rfl, rfl⟩
  go_wp2
  all_goals (go_ret; exact ⟨by first | rfl | (simp [*]) | (cases n <;> cases v <;> cases z <;> cases k <;> simp_all), rfl⟩)
theorem holds_7 (f : Int) (n z k v : Bool) (H : Hid (∀ w, Calls Tryd.prog 18 #[.int .i64 f] w fun e w' => e = .returned (.tuple #[.bool n, .bool z, .bool k, .bool v]) ∧ w' = w)) (w : World) :
    Calls Tryd.prog 7 #[.int .i64 7, .int .i64 f] w fun e w' => e = .returned (.bool (!v)) ∧ w' = w := by
  go_enter Tryd.func7, Tryd.ntmps7
  go_wp2_with fail
  refine (H.out _).mono ?_
  rintro e _ ⟨rfl, rfl⟩
  go_wp2
  all_goals (go_ret; exact ⟨by first | rfl | (simp [*]) | (cases n <;> cases v <;> cases z <;> cases k <;> simp_all), rfl⟩)
theorem holds_8 (f : Int) (n z k v : Bool) (H : Hid (∀ w, Calls Tryd.prog 18 #[.int .i64 f] w fun e w' => e = .returned (.tuple #[.bool n, .bool z, .bool k, .bool v]) ∧ w' = w)) (w : World) :
    Calls Tryd.prog 7 #[.int .i64 8, .int .i64 f] w fun e w' => e = .returned (.bool (k && !z)) ∧ w' = w := by
  go_enter Tryd.func7, Tryd.ntmps7
  go_wp2_with fail
  refine (H.out _).mono ?_
  rintro e _ ⟨rfl, rfl⟩
  go_wp2
  all_goals (go_ret; exact ⟨by first | rfl | (simp [*]) | (cases n <;> cases v <;> cases z <;> cases k <;> simp_all), rfl⟩)
theorem holds_9 (f : Int) (n z k v : Bool) (H : Hid (∀ w, Calls Tryd.prog 18 #[.int .i64 f] w fun e w' => e = .returned (.tuple #[.bool n, .bool z, .bool k, .bool v]) ∧ w' = w)) (w : World) :
    Calls Tryd.prog 7 #[.int .i64 9, .int .i64 f] w fun e w' => e = .returned (.bool (!(k && !z))) ∧ w' = w := by
  go_enter Tryd.func7, Tryd.ntmps7
  go_wp2_with fail
  refine (H.out _).mono ?_
  rintro e _ ⟨rfl, rfl⟩
  go_wp2
  all_goals (go_ret; exact ⟨by first | rfl | (simp [*]) | (cases n <;> cases v <;> cases z <;> cases k <;> simp_all), rfl⟩)
theorem holds_10 (f : Int) (n z k v : Bool) (H : Hid (∀ w, Calls Tryd.prog 18 #[.int .i64 f] w fun e w' => e = .returned (.tuple #[.bool n, .bool z, .bool k, .bool v]) ∧ w' = w)) (w : World) :
    Calls Tryd.prog 7 #[.int .i64 10, .int .i64 f] w fun e w' => e = .returned (.bool (n == v)) ∧ w' = w := by
  go_enter Tryd.func7, Tryd.ntmps7
  go_wp2_with fail
  refine (H.out _).mono ?_
  rintro e _ ⟨rfl, rfl⟩
  go_wp2
  all_goals (go_ret; exact ⟨by first | rfl | (simp [*]) | (cases n <;> cases v <;> cases z <;> cases k <;> simp_all), rfl⟩)
theorem holds_11 (f : Int) (n z k v : Bool) (H : Hid (∀ w, Calls Tryd.prog 18 #[.int .i64 f] w fun e w' => e = .returned (.tuple #[.bool n, .bool z, .bool k, .bool v]) ∧ w' = w)) (w : World) :
    Calls Tryd.prog 7 #[.int .i64 11, .int .i64 f] w fun e w' => e = .returned (.bool (!(n == v))) ∧ w' = w := by
  go_enter Tryd.func7, Tryd.ntmps7
  go_wp2_with fail
  refine (H.out _).mono ?_
  rintro e _ ⟨rfl, rfl⟩
  go_wp2
  all_goals (go_ret; exact ⟨by first | rfl | (simp [*]) | (cases n <;> cases v <;> cases z <;> cases k <;> simp_all), rfl⟩)
theorem holds_12 (f : Int) (n z k v : Bool) (H : Hid (∀ w, Calls Tryd.prog 18 #[.int .i64 f] w fun e w' => e = .returned (.tuple #[.bool n, .bool z, .bool k, .bool v]) ∧ w' = w)) (w : World) :
    Calls Tryd.prog 7 #[.int .i64 12, .int .i64 f] w fun e w' => e = .returned (.bool (!z && n == v)) ∧ w' = w := by
  go_enter Tryd.func7, Tryd.ntmps7
  go_wp2_with fail
  refine (H.out _).mono ?_
  rintro e _ ⟨rfl, rfl⟩
  go_wp2
  all_goals (go_ret; exact ⟨by first | rfl | (simp [*]) | (cases n <;> cases v <;> cases z <;> cases k <;> simp_all), rfl⟩)
theorem holds_13 (f : Int) (n z k v : Bool) (H : Hid (∀ w, Calls Tryd.prog 18 #[.int .i64 f] w fun e w' => e = .returned (.tuple #[.bool n, .bool z, .bool k, .bool v]) ∧ w' = w)) (w : World) :
    Calls Tryd.prog 7 #[.int .i64 13, .int .i64 f] w fun e w' => e = .returned (.bool (!(!z && n == v))) ∧ w' = w := by
  go_enter Tryd.func7, Tryd.ntmps7
  go_wp2_with fail
  refine (H.out _).mono ?_
  rintro e _ ⟨rfl, rfl⟩
  go_wp2
  all_goals (go_ret; exact ⟨by first | rfl | (simp [*]) | (cases n <;> cases v <;> cases z <;> cases k <;> simp_all), rfl⟩)
end Go.Proofs.YtmgnmoohfnaekaaDoor
