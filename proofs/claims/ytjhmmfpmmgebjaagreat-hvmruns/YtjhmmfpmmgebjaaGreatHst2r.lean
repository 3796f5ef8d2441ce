/- Right, the program's and the document's, walked: what a host instruction may be. -/
import Derived.Test.YtjhmmfpmmgebjaaGreatHst1
import Derived.Test.YtjhmmfpmmgebjaaGreatVa
import Derived.Laws.Rows
import Derived.Laws.ResultCell
namespace Go.Proofs.YtjhmmfpmmgebjaaGreat
open Go.ChangeShapes Go.WideShapes Go.ChangeAt Go.RowKit
set_option linter.unusedVariables false
set_option linter.unusedSimpArgs false

structure HV where
  op : Int
  d : Int
  a : Int
  b : Int
  c : Int
  im : Int
def HV.val (h : HV) : Value := .agg #[.int .i64 h.op, .int .i64 h.d, .int .i64 h.a, .int .i64 h.b, .int .i64 h.c, .int .u32 h.im]
def HV.wf (h : HV) : Prop := 0 ≤ h.im ∧ h.im ≤ 4294967295
def usedS (o k : Int) : Bool := bits .and .i64 (usesS o) k != 0
def regOk (r : Int) (u : Bool) : Bool := if u then decide (0 ≤ r) && decide (r < 32) else r == 0
def immOk (o v : Int) : Bool := if o = 31 then decide (1 ≤ v) && decide (v ≤ 99) else if usedS o 16 then true else v == 0
def rightS (h : HV) : Bool := isS h.op && (regOk h.d (usedS h.op 1) && (regOk h.a (usedS h.op 2) && (regOk h.b (usedS h.op 4) && (regOk h.c (usedS h.op 8) && immOk h.op h.im))))

theorem register_c (r : Int) (u : Bool) (w : World) : Calls Tryz.prog 91 #[.int .i64 r, .bool u] w fun e w' => e = .returned (.bool (regOk r u)) ∧ w' = w := by
  unfold regOk
  cases u
  · go_enter Tryz.func91, Tryz.ntmps91
    go_wp2
    go_ret
    exact ⟨rfl, rfl⟩
  · by_cases h1 : 0 ≤ r
    · by_cases h2 : r < 32
      · go_enter Tryz.func91, Tryz.ntmps91
        go_wp2
        go_ret
        exact ⟨by simp [h1, h2], rfl⟩
      · go_enter Tryz.func91, Tryz.ntmps91
        go_wp2
        go_ret
        exact ⟨by simp [h1, h2], rfl⟩
    · go_enter Tryz.func91, Tryz.ntmps91
      go_wp2
      go_ret
      exact ⟨by rw [show decide (0 ≤ r) = false by simpa using h1]; rfl, rfl⟩

theorem immediate_c (o v : Int) (w : World) : Calls Tryz.prog 92 #[.int .i64 o, .int .u32 v] w fun e w' => e = .returned (.bool (immOk o v)) ∧ w' = w := by
  unfold immOk
  by_cases h31 : o = 31
  · subst h31
    rw [if_pos rfl]
    by_cases h1 : 1 ≤ v
    · by_cases h2 : v ≤ 99
      · go_enter Tryz.func92, Tryz.ntmps92
        go_wp2
        go_ret
        exact ⟨by simp [h1, h2], rfl⟩
      · go_enter Tryz.func92, Tryz.ntmps92
        go_wp2
        go_ret
        exact ⟨by simp [h1, h2], rfl⟩
    · go_enter Tryz.func92, Tryz.ntmps92
      go_wp2
      go_ret
      exact ⟨by rw [show decide (1 ≤ v) = false by simpa using h1]; rfl, rfl⟩
  · rw [if_neg h31]
    have C : Hid _ := fun w => uses_c o w
    have ho : (o == 31) = false := by simpa using h31
    clear h31
    unfold usedS
    generalize usesS o = u at *
    cases hx : (bits .and .i64 u 16 != 0)
    · have hx' : (bits .and .i64 u 16 == 0) = true := by simpa using hx
      go_enter Tryz.func92, Tryz.ntmps92
      go_wp2_with fail
      refine (C.out _).mono ?_
      rintro e _ ⟨rfl, rfl⟩
      go_wp2
      go_ret
      exact ⟨by simp, rfl⟩
    · have hx' : (bits .and .i64 u 16 == 0) = false := by simpa using hx
      go_enter Tryz.func92, Tryz.ntmps92
      go_wp2_with fail
      refine (C.out _).mono ?_
      rintro e _ ⟨rfl, rfl⟩
      go_wp2
      go_ret
      exact ⟨by simp, rfl⟩

/-- Host.Right over letters. -/
theorem right_w (h : HV) (i r1 r2 r3 r4 r5 x1 x2 x3 x4 : Bool) (u : Int) (I : Hid (∀ w, Calls Tryz.prog 89 #[.int .i64 h.op] w fun e w' => e = .returned (.bool i) ∧ w' = w)) (U : Hid (∀ w, Calls Tryz.prog 90 #[.int .i64 h.op] w fun e w' => e = .returned (.int .i64 u) ∧ w' = w))
    (h1 : (bits .and .i64 u 1 != 0) = x1) (h2 : (bits .and .i64 u 2 != 0) = x2) (h3 : (bits .and .i64 u 4 != 0) = x3) (h4 : (bits .and .i64 u 8 != 0) = x4)
    (R1 : Hid (∀ w, Calls Tryz.prog 91 #[.int .i64 h.d, .bool x1] w fun e w' => e = .returned (.bool r1) ∧ w' = w)) (R2 : Hid (∀ w, Calls Tryz.prog 91 #[.int .i64 h.a, .bool x2] w fun e w' => e = .returned (.bool r2) ∧ w' = w))
    (R3 : Hid (∀ w, Calls Tryz.prog 91 #[.int .i64 h.b, .bool x3] w fun e w' => e = .returned (.bool r3) ∧ w' = w)) (R4 : Hid (∀ w, Calls Tryz.prog 91 #[.int .i64 h.c, .bool x4] w fun e w' => e = .returned (.bool r4) ∧ w' = w))
    (R5 : Hid (∀ w, Calls Tryz.prog 92 #[.int .i64 h.op, .int .u32 h.im] w fun e w' => e = .returned (.bool r5) ∧ w' = w)) (w : World) :
    Calls Tryz.prog 67 #[h.val] w fun e w' => e = .returned (.bool (i && (r1 && (r2 && (r3 && (r4 && r5)))))) ∧ Below w.heap.size w w' := by
  obtain ⟨op, d, a, b, c, im⟩ := h
  simp only [HV.val] at *
  rcases (show i = false ∨ (i = true ∧ r1 = false) ∨ (i = true ∧ r1 = true ∧ r2 = false) ∨ (i = true ∧ r1 = true ∧ r2 = true ∧ r3 = false) ∨ (i = true ∧ r1 = true ∧ r2 = true ∧ r3 = true ∧ r4 = false) ∨ (i = true ∧ r1 = true ∧ r2 = true ∧ r3 = true ∧ r4 = true) by
    cases i <;> cases r1 <;> cases r2 <;> cases r3 <;> cases r4 <;> simp) with rfl | ⟨rfl, rfl⟩ | ⟨rfl, rfl, rfl⟩ | ⟨rfl, rfl, rfl, rfl⟩ | ⟨rfl, rfl, rfl, rfl, rfl⟩ | ⟨rfl, rfl, rfl, rfl, rfl⟩
  · go_enter Tryz.func67, Tryz.ntmps67
    go_wp2_with fail
    refine (I.out _).mono ?_
    rintro e _ ⟨rfl, rfl⟩
    go_wp2
    go_ret
    exact ⟨rfl, (Below.refl _ _).alloc (Nat.le_refl _) _⟩
  · go_enter Tryz.func67, Tryz.ntmps67
    go_wp2_with fail
    refine (I.out _).mono ?_
    rintro e _ ⟨rfl, rfl⟩
    go_wp2_with fail
    refine (U.out _).mono ?_
    rintro e _ ⟨rfl, rfl⟩
    go_wp2_with fail
    refine (R1.out _).mono ?_
    rintro e _ ⟨rfl, rfl⟩
    go_wp2
    go_ret
    exact ⟨rfl, (Below.refl _ _).alloc (Nat.le_refl _) _⟩
  · go_enter Tryz.func67, Tryz.ntmps67
    go_wp2_with fail
    refine (I.out _).mono ?_
    rintro e _ ⟨rfl, rfl⟩
    go_wp2_with fail
    refine (U.out _).mono ?_
    rintro e _ ⟨rfl, rfl⟩
    go_wp2_with fail
    refine (R1.out _).mono ?_
    rintro e _ ⟨rfl, rfl⟩
    go_wp2_with fail
    refine (R2.out _).mono ?_
    rintro e _ ⟨rfl, rfl⟩
    go_wp2
    go_ret
    exact ⟨rfl, (Below.refl _ _).alloc (Nat.le_refl _) _⟩
  · go_enter Tryz.func67, Tryz.ntmps67
    go_wp2_with fail
    refine (I.out _).mono ?_
    rintro e _ ⟨rfl, rfl⟩
    go_wp2_with fail
    refine (U.out _).mono ?_
    rintro e _ ⟨rfl, rfl⟩
    go_wp2_with fail
    refine (R1.out _).mono ?_
    rintro e _ ⟨rfl, rfl⟩
    go_wp2_with fail
    refine (R2.out _).mono ?_
    rintro e _ ⟨rfl, rfl⟩
    go_wp2_with fail
    refine (R3.out _).mono ?_
    rintro e _ ⟨rfl, rfl⟩
    go_wp2
    go_ret
    exact ⟨rfl, (Below.refl _ _).alloc (Nat.le_refl _) _⟩
  · go_enter Tryz.func67, Tryz.ntmps67
    go_wp2_with fail
    refine (I.out _).mono ?_
    rintro e _ ⟨rfl, rfl⟩
    go_wp2_with fail
    refine (U.out _).mono ?_
    rintro e _ ⟨rfl, rfl⟩
    go_wp2_with fail
    refine (R1.out _).mono ?_
    rintro e _ ⟨rfl, rfl⟩
    go_wp2_with fail
    refine (R2.out _).mono ?_
    rintro e _ ⟨rfl, rfl⟩
    go_wp2_with fail
    refine (R3.out _).mono ?_
    rintro e _ ⟨rfl, rfl⟩
    go_wp2_with fail
    refine (R4.out _).mono ?_
    rintro e _ ⟨rfl, rfl⟩
    go_wp2
    go_ret
    exact ⟨rfl, (Below.refl _ _).alloc (Nat.le_refl _) _⟩
  · go_enter Tryz.func67, Tryz.ntmps67
    go_wp2_with fail
    refine (I.out _).mono ?_
    rintro e _ ⟨rfl, rfl⟩
    go_wp2_with fail
    refine (U.out _).mono ?_
    rintro e _ ⟨rfl, rfl⟩
    go_wp2_with fail
    refine (R1.out _).mono ?_
    rintro e _ ⟨rfl, rfl⟩
    go_wp2_with fail
    refine (R2.out _).mono ?_
    rintro e _ ⟨rfl, rfl⟩
    go_wp2_with fail
    refine (R3.out _).mono ?_
    rintro e _ ⟨rfl, rfl⟩
    go_wp2_with fail
    refine (R4.out _).mono ?_
    rintro e _ ⟨rfl, rfl⟩
    go_wp2_with fail
    refine (R5.out _).mono ?_
    rintro e _ ⟨rfl, rfl⟩
    go_wp2
    go_ret
    exact ⟨rfl, (Below.refl _ _).alloc (Nat.le_refl _) _⟩

theorem right_c (h : HV) (w : World) : Calls Tryz.prog 67 #[h.val] w fun e w' => e = .returned (.bool (rightS h)) ∧ Below w.heap.size w w' :=
  right_w h _ _ _ _ _ _ _ _ _ _ _ (fun w => is_c h.op w) (fun w => uses_c h.op w) rfl rfl rfl rfl (fun w => register_c _ _ w) (fun w => register_c _ _ w) (fun w => register_c _ _ w) (fun w => register_c _ _ w) (fun w => immediate_c _ _ w) w

theorem ruses_1 (w : World) : Calls Tryz.prog 76 #[.int .i64 1] w fun e w' => e = .returned (.agg #[.bool (usedS 1 1), .bool (usedS 1 2), .bool (usedS 1 4), .bool (usedS 1 8), .bool (usedS 1 16)]) ∧ Below w.heap.size w w' := by
  rw [show usedS 1 1 = true by decide +kernel, show usedS 1 2 = false by decide +kernel, show usedS 1 4 = false by decide +kernel, show usedS 1 8 = false by decide +kernel, show usedS 1 16 = true by decide +kernel]
  go_enter Tryz.func76, Tryz.ntmps76
  go_wp2
  (try simp only [Exit.inBlock, Exit.then])
  refine bodyPost_ret (results_cell_row rfl _ _ w.heap.size _ _ _ _ rfl (heap_alloc_new w _) Tryz.underlying100 rfl (by kernel_rfl)) rfl ⟨rfl, (Below.refl _ _).alloc (Nat.le_refl _) _⟩
theorem ruses_2 (w : World) : Calls Tryz.prog 76 #[.int .i64 2] w fun e w' => e = .returned (.agg #[.bool (usedS 2 1), .bool (usedS 2 2), .bool (usedS 2 4), .bool (usedS 2 8), .bool (usedS 2 16)]) ∧ Below w.heap.size w w' := by
  rw [show usedS 2 1 = true by decide +kernel, show usedS 2 2 = true by decide +kernel, show usedS 2 4 = false by decide +kernel, show usedS 2 8 = false by decide +kernel, show usedS 2 16 = false by decide +kernel]
  go_enter Tryz.func76, Tryz.ntmps76
  go_wp2
  (try simp only [Exit.inBlock, Exit.then])
  refine bodyPost_ret (results_cell_row rfl _ _ w.heap.size _ _ _ _ rfl (heap_alloc_new w _) Tryz.underlying100 rfl (by kernel_rfl)) rfl ⟨rfl, (Below.refl _ _).alloc (Nat.le_refl _) _⟩
theorem ruses_3 (w : World) : Calls Tryz.prog 76 #[.int .i64 3] w fun e w' => e = .returned (.agg #[.bool (usedS 3 1), .bool (usedS 3 2), .bool (usedS 3 4), .bool (usedS 3 8), .bool (usedS 3 16)]) ∧ Below w.heap.size w w' := by
  rw [show usedS 3 1 = true by decide +kernel, show usedS 3 2 = true by decide +kernel, show usedS 3 4 = true by decide +kernel, show usedS 3 8 = false by decide +kernel, show usedS 3 16 = false by decide +kernel]
  go_enter Tryz.func76, Tryz.ntmps76
  go_wp2
  (try simp only [Exit.inBlock, Exit.then])
  refine bodyPost_ret (results_cell_row rfl _ _ w.heap.size _ _ _ _ rfl (heap_alloc_new w _) Tryz.underlying100 rfl (by kernel_rfl)) rfl ⟨rfl, (Below.refl _ _).alloc (Nat.le_refl _) _⟩
theorem ruses_4 (w : World) : Calls Tryz.prog 76 #[.int .i64 4] w fun e w' => e = .returned (.agg #[.bool (usedS 4 1), .bool (usedS 4 2), .bool (usedS 4 4), .bool (usedS 4 8), .bool (usedS 4 16)]) ∧ Below w.heap.size w w' := by
  rw [show usedS 4 1 = true by decide +kernel, show usedS 4 2 = true by decide +kernel, show usedS 4 4 = true by decide +kernel, show usedS 4 8 = false by decide +kernel, show usedS 4 16 = false by decide +kernel]
  go_enter Tryz.func76, Tryz.ntmps76
  go_wp2
  (try simp only [Exit.inBlock, Exit.then])
  refine bodyPost_ret (results_cell_row rfl _ _ w.heap.size _ _ _ _ rfl (heap_alloc_new w _) Tryz.underlying100 rfl (by kernel_rfl)) rfl ⟨rfl, (Below.refl _ _).alloc (Nat.le_refl _) _⟩
theorem ruses_5 (w : World) : Calls Tryz.prog 76 #[.int .i64 5] w fun e w' => e = .returned (.agg #[.bool (usedS 5 1), .bool (usedS 5 2), .bool (usedS 5 4), .bool (usedS 5 8), .bool (usedS 5 16)]) ∧ Below w.heap.size w w' := by
  rw [show usedS 5 1 = true by decide +kernel, show usedS 5 2 = true by decide +kernel, show usedS 5 4 = true by decide +kernel, show usedS 5 8 = false by decide +kernel, show usedS 5 16 = false by decide +kernel]
  go_enter Tryz.func76, Tryz.ntmps76
  go_wp2
  (try simp only [Exit.inBlock, Exit.then])
  refine bodyPost_ret (results_cell_row rfl _ _ w.heap.size _ _ _ _ rfl (heap_alloc_new w _) Tryz.underlying100 rfl (by kernel_rfl)) rfl ⟨rfl, (Below.refl _ _).alloc (Nat.le_refl _) _⟩
theorem ruses_6 (w : World) : Calls Tryz.prog 76 #[.int .i64 6] w fun e w' => e = .returned (.agg #[.bool (usedS 6 1), .bool (usedS 6 2), .bool (usedS 6 4), .bool (usedS 6 8), .bool (usedS 6 16)]) ∧ Below w.heap.size w w' := by
  rw [show usedS 6 1 = true by decide +kernel, show usedS 6 2 = true by decide +kernel, show usedS 6 4 = true by decide +kernel, show usedS 6 8 = false by decide +kernel, show usedS 6 16 = false by decide +kernel]
  go_enter Tryz.func76, Tryz.ntmps76
  go_wp2
  (try simp only [Exit.inBlock, Exit.then])
  refine bodyPost_ret (results_cell_row rfl _ _ w.heap.size _ _ _ _ rfl (heap_alloc_new w _) Tryz.underlying100 rfl (by kernel_rfl)) rfl ⟨rfl, (Below.refl _ _).alloc (Nat.le_refl _) _⟩
theorem ruses_7 (w : World) : Calls Tryz.prog 76 #[.int .i64 7] w fun e w' => e = .returned (.agg #[.bool (usedS 7 1), .bool (usedS 7 2), .bool (usedS 7 4), .bool (usedS 7 8), .bool (usedS 7 16)]) ∧ Below w.heap.size w w' := by
  rw [show usedS 7 1 = true by decide +kernel, show usedS 7 2 = true by decide +kernel, show usedS 7 4 = true by decide +kernel, show usedS 7 8 = false by decide +kernel, show usedS 7 16 = false by decide +kernel]
  go_enter Tryz.func76, Tryz.ntmps76
  go_wp2
  (try simp only [Exit.inBlock, Exit.then])
  refine bodyPost_ret (results_cell_row rfl _ _ w.heap.size _ _ _ _ rfl (heap_alloc_new w _) Tryz.underlying100 rfl (by kernel_rfl)) rfl ⟨rfl, (Below.refl _ _).alloc (Nat.le_refl _) _⟩
theorem ruses_8 (w : World) : Calls Tryz.prog 76 #[.int .i64 8] w fun e w' => e = .returned (.agg #[.bool (usedS 8 1), .bool (usedS 8 2), .bool (usedS 8 4), .bool (usedS 8 8), .bool (usedS 8 16)]) ∧ Below w.heap.size w w' := by
  rw [show usedS 8 1 = true by decide +kernel, show usedS 8 2 = true by decide +kernel, show usedS 8 4 = true by decide +kernel, show usedS 8 8 = false by decide +kernel, show usedS 8 16 = false by decide +kernel]
  go_enter Tryz.func76, Tryz.ntmps76
  go_wp2
  (try simp only [Exit.inBlock, Exit.then])
  refine bodyPost_ret (results_cell_row rfl _ _ w.heap.size _ _ _ _ rfl (heap_alloc_new w _) Tryz.underlying100 rfl (by kernel_rfl)) rfl ⟨rfl, (Below.refl _ _).alloc (Nat.le_refl _) _⟩
theorem ruses_9 (w : World) : Calls Tryz.prog 76 #[.int .i64 9] w fun e w' => e = .returned (.agg #[.bool (usedS 9 1), .bool (usedS 9 2), .bool (usedS 9 4), .bool (usedS 9 8), .bool (usedS 9 16)]) ∧ Below w.heap.size w w' := by
  rw [show usedS 9 1 = true by decide +kernel, show usedS 9 2 = true by decide +kernel, show usedS 9 4 = true by decide +kernel, show usedS 9 8 = false by decide +kernel, show usedS 9 16 = false by decide +kernel]
  go_enter Tryz.func76, Tryz.ntmps76
  go_wp2
  (try simp only [Exit.inBlock, Exit.then])
  refine bodyPost_ret (results_cell_row rfl _ _ w.heap.size _ _ _ _ rfl (heap_alloc_new w _) Tryz.underlying100 rfl (by kernel_rfl)) rfl ⟨rfl, (Below.refl _ _).alloc (Nat.le_refl _) _⟩
theorem ruses_10 (w : World) : Calls Tryz.prog 76 #[.int .i64 10] w fun e w' => e = .returned (.agg #[.bool (usedS 10 1), .bool (usedS 10 2), .bool (usedS 10 4), .bool (usedS 10 8), .bool (usedS 10 16)]) ∧ Below w.heap.size w w' := by
  rw [show usedS 10 1 = true by decide +kernel, show usedS 10 2 = true by decide +kernel, show usedS 10 4 = true by decide +kernel, show usedS 10 8 = false by decide +kernel, show usedS 10 16 = false by decide +kernel]
  go_enter Tryz.func76, Tryz.ntmps76
  go_wp2
  (try simp only [Exit.inBlock, Exit.then])
  refine bodyPost_ret (results_cell_row rfl _ _ w.heap.size _ _ _ _ rfl (heap_alloc_new w _) Tryz.underlying100 rfl (by kernel_rfl)) rfl ⟨rfl, (Below.refl _ _).alloc (Nat.le_refl _) _⟩
theorem ruses_11 (w : World) : Calls Tryz.prog 76 #[.int .i64 11] w fun e w' => e = .returned (.agg #[.bool (usedS 11 1), .bool (usedS 11 2), .bool (usedS 11 4), .bool (usedS 11 8), .bool (usedS 11 16)]) ∧ Below w.heap.size w w' := by
  rw [show usedS 11 1 = true by decide +kernel, show usedS 11 2 = true by decide +kernel, show usedS 11 4 = true by decide +kernel, show usedS 11 8 = false by decide +kernel, show usedS 11 16 = false by decide +kernel]
  go_enter Tryz.func76, Tryz.ntmps76
  go_wp2
  (try simp only [Exit.inBlock, Exit.then])
  refine bodyPost_ret (results_cell_row rfl _ _ w.heap.size _ _ _ _ rfl (heap_alloc_new w _) Tryz.underlying100 rfl (by kernel_rfl)) rfl ⟨rfl, (Below.refl _ _).alloc (Nat.le_refl _) _⟩
theorem ruses_12 (w : World) : Calls Tryz.prog 76 #[.int .i64 12] w fun e w' => e = .returned (.agg #[.bool (usedS 12 1), .bool (usedS 12 2), .bool (usedS 12 4), .bool (usedS 12 8), .bool (usedS 12 16)]) ∧ Below w.heap.size w w' := by
  rw [show usedS 12 1 = true by decide +kernel, show usedS 12 2 = true by decide +kernel, show usedS 12 4 = true by decide +kernel, show usedS 12 8 = false by decide +kernel, show usedS 12 16 = false by decide +kernel]
  go_enter Tryz.func76, Tryz.ntmps76
  go_wp2
  (try simp only [Exit.inBlock, Exit.then])
  refine bodyPost_ret (results_cell_row rfl _ _ w.heap.size _ _ _ _ rfl (heap_alloc_new w _) Tryz.underlying100 rfl (by kernel_rfl)) rfl ⟨rfl, (Below.refl _ _).alloc (Nat.le_refl _) _⟩
theorem ruses_13 (w : World) : Calls Tryz.prog 76 #[.int .i64 13] w fun e w' => e = .returned (.agg #[.bool (usedS 13 1), .bool (usedS 13 2), .bool (usedS 13 4), .bool (usedS 13 8), .bool (usedS 13 16)]) ∧ Below w.heap.size w w' := by
  rw [show usedS 13 1 = true by decide +kernel, show usedS 13 2 = true by decide +kernel, show usedS 13 4 = true by decide +kernel, show usedS 13 8 = false by decide +kernel, show usedS 13 16 = false by decide +kernel]
  go_enter Tryz.func76, Tryz.ntmps76
  go_wp2
  (try simp only [Exit.inBlock, Exit.then])
  refine bodyPost_ret (results_cell_row rfl _ _ w.heap.size _ _ _ _ rfl (heap_alloc_new w _) Tryz.underlying100 rfl (by kernel_rfl)) rfl ⟨rfl, (Below.refl _ _).alloc (Nat.le_refl _) _⟩
theorem ruses_14 (w : World) : Calls Tryz.prog 76 #[.int .i64 14] w fun e w' => e = .returned (.agg #[.bool (usedS 14 1), .bool (usedS 14 2), .bool (usedS 14 4), .bool (usedS 14 8), .bool (usedS 14 16)]) ∧ Below w.heap.size w w' := by
  rw [show usedS 14 1 = true by decide +kernel, show usedS 14 2 = true by decide +kernel, show usedS 14 4 = true by decide +kernel, show usedS 14 8 = false by decide +kernel, show usedS 14 16 = false by decide +kernel]
  go_enter Tryz.func76, Tryz.ntmps76
  go_wp2
  (try simp only [Exit.inBlock, Exit.then])
  refine bodyPost_ret (results_cell_row rfl _ _ w.heap.size _ _ _ _ rfl (heap_alloc_new w _) Tryz.underlying100 rfl (by kernel_rfl)) rfl ⟨rfl, (Below.refl _ _).alloc (Nat.le_refl _) _⟩
theorem ruses_15 (w : World) : Calls Tryz.prog 76 #[.int .i64 15] w fun e w' => e = .returned (.agg #[.bool (usedS 15 1), .bool (usedS 15 2), .bool (usedS 15 4), .bool (usedS 15 8), .bool (usedS 15 16)]) ∧ Below w.heap.size w w' := by
  rw [show usedS 15 1 = true by decide +kernel, show usedS 15 2 = true by decide +kernel, show usedS 15 4 = true by decide +kernel, show usedS 15 8 = false by decide +kernel, show usedS 15 16 = false by decide +kernel]
  go_enter Tryz.func76, Tryz.ntmps76
  go_wp2
  (try simp only [Exit.inBlock, Exit.then])
  refine bodyPost_ret (results_cell_row rfl _ _ w.heap.size _ _ _ _ rfl (heap_alloc_new w _) Tryz.underlying100 rfl (by kernel_rfl)) rfl ⟨rfl, (Below.refl _ _).alloc (Nat.le_refl _) _⟩
theorem ruses_16 (w : World) : Calls Tryz.prog 76 #[.int .i64 16] w fun e w' => e = .returned (.agg #[.bool (usedS 16 1), .bool (usedS 16 2), .bool (usedS 16 4), .bool (usedS 16 8), .bool (usedS 16 16)]) ∧ Below w.heap.size w w' := by
  rw [show usedS 16 1 = true by decide +kernel, show usedS 16 2 = true by decide +kernel, show usedS 16 4 = true by decide +kernel, show usedS 16 8 = false by decide +kernel, show usedS 16 16 = false by decide +kernel]
  go_enter Tryz.func76, Tryz.ntmps76
  go_wp2
  (try simp only [Exit.inBlock, Exit.then])
  refine bodyPost_ret (results_cell_row rfl _ _ w.heap.size _ _ _ _ rfl (heap_alloc_new w _) Tryz.underlying100 rfl (by kernel_rfl)) rfl ⟨rfl, (Below.refl _ _).alloc (Nat.le_refl _) _⟩
theorem ruses_17 (w : World) : Calls Tryz.prog 76 #[.int .i64 17] w fun e w' => e = .returned (.agg #[.bool (usedS 17 1), .bool (usedS 17 2), .bool (usedS 17 4), .bool (usedS 17 8), .bool (usedS 17 16)]) ∧ Below w.heap.size w w' := by
  rw [show usedS 17 1 = true by decide +kernel, show usedS 17 2 = true by decide +kernel, show usedS 17 4 = false by decide +kernel, show usedS 17 8 = false by decide +kernel, show usedS 17 16 = false by decide +kernel]
  go_enter Tryz.func76, Tryz.ntmps76
  go_wp2
  (try simp only [Exit.inBlock, Exit.then])
  refine bodyPost_ret (results_cell_row rfl _ _ w.heap.size _ _ _ _ rfl (heap_alloc_new w _) Tryz.underlying100 rfl (by kernel_rfl)) rfl ⟨rfl, (Below.refl _ _).alloc (Nat.le_refl _) _⟩
theorem ruses_18 (w : World) : Calls Tryz.prog 76 #[.int .i64 18] w fun e w' => e = .returned (.agg #[.bool (usedS 18 1), .bool (usedS 18 2), .bool (usedS 18 4), .bool (usedS 18 8), .bool (usedS 18 16)]) ∧ Below w.heap.size w w' := by
  rw [show usedS 18 1 = true by decide +kernel, show usedS 18 2 = true by decide +kernel, show usedS 18 4 = true by decide +kernel, show usedS 18 8 = false by decide +kernel, show usedS 18 16 = false by decide +kernel]
  go_enter Tryz.func76, Tryz.ntmps76
  go_wp2
  (try simp only [Exit.inBlock, Exit.then])
  refine bodyPost_ret (results_cell_row rfl _ _ w.heap.size _ _ _ _ rfl (heap_alloc_new w _) Tryz.underlying100 rfl (by kernel_rfl)) rfl ⟨rfl, (Below.refl _ _).alloc (Nat.le_refl _) _⟩
theorem ruses_19 (w : World) : Calls Tryz.prog 76 #[.int .i64 19] w fun e w' => e = .returned (.agg #[.bool (usedS 19 1), .bool (usedS 19 2), .bool (usedS 19 4), .bool (usedS 19 8), .bool (usedS 19 16)]) ∧ Below w.heap.size w w' := by
  rw [show usedS 19 1 = true by decide +kernel, show usedS 19 2 = true by decide +kernel, show usedS 19 4 = true by decide +kernel, show usedS 19 8 = false by decide +kernel, show usedS 19 16 = false by decide +kernel]
  go_enter Tryz.func76, Tryz.ntmps76
  go_wp2
  (try simp only [Exit.inBlock, Exit.then])
  refine bodyPost_ret (results_cell_row rfl _ _ w.heap.size _ _ _ _ rfl (heap_alloc_new w _) Tryz.underlying100 rfl (by kernel_rfl)) rfl ⟨rfl, (Below.refl _ _).alloc (Nat.le_refl _) _⟩
theorem ruses_20 (w : World) : Calls Tryz.prog 76 #[.int .i64 20] w fun e w' => e = .returned (.agg #[.bool (usedS 20 1), .bool (usedS 20 2), .bool (usedS 20 4), .bool (usedS 20 8), .bool (usedS 20 16)]) ∧ Below w.heap.size w w' := by
  rw [show usedS 20 1 = true by decide +kernel, show usedS 20 2 = true by decide +kernel, show usedS 20 4 = true by decide +kernel, show usedS 20 8 = false by decide +kernel, show usedS 20 16 = false by decide +kernel]
  go_enter Tryz.func76, Tryz.ntmps76
  go_wp2
  (try simp only [Exit.inBlock, Exit.then])
  refine bodyPost_ret (results_cell_row rfl _ _ w.heap.size _ _ _ _ rfl (heap_alloc_new w _) Tryz.underlying100 rfl (by kernel_rfl)) rfl ⟨rfl, (Below.refl _ _).alloc (Nat.le_refl _) _⟩
theorem ruses_21 (w : World) : Calls Tryz.prog 76 #[.int .i64 21] w fun e w' => e = .returned (.agg #[.bool (usedS 21 1), .bool (usedS 21 2), .bool (usedS 21 4), .bool (usedS 21 8), .bool (usedS 21 16)]) ∧ Below w.heap.size w w' := by
  rw [show usedS 21 1 = true by decide +kernel, show usedS 21 2 = true by decide +kernel, show usedS 21 4 = true by decide +kernel, show usedS 21 8 = true by decide +kernel, show usedS 21 16 = false by decide +kernel]
  go_enter Tryz.func76, Tryz.ntmps76
  go_wp2
  (try simp only [Exit.inBlock, Exit.then])
  refine bodyPost_ret (results_cell_row rfl _ _ w.heap.size _ _ _ _ rfl (heap_alloc_new w _) Tryz.underlying100 rfl (by kernel_rfl)) rfl ⟨rfl, (Below.refl _ _).alloc (Nat.le_refl _) _⟩
theorem ruses_22 (w : World) : Calls Tryz.prog 76 #[.int .i64 22] w fun e w' => e = .returned (.agg #[.bool (usedS 22 1), .bool (usedS 22 2), .bool (usedS 22 4), .bool (usedS 22 8), .bool (usedS 22 16)]) ∧ Below w.heap.size w w' := by
  rw [show usedS 22 1 = true by decide +kernel, show usedS 22 2 = true by decide +kernel, show usedS 22 4 = false by decide +kernel, show usedS 22 8 = false by decide +kernel, show usedS 22 16 = true by decide +kernel]
  go_enter Tryz.func76, Tryz.ntmps76
  go_wp2
  (try simp only [Exit.inBlock, Exit.then])
  refine bodyPost_ret (results_cell_row rfl _ _ w.heap.size _ _ _ _ rfl (heap_alloc_new w _) Tryz.underlying100 rfl (by kernel_rfl)) rfl ⟨rfl, (Below.refl _ _).alloc (Nat.le_refl _) _⟩
theorem ruses_23 (w : World) : Calls Tryz.prog 76 #[.int .i64 23] w fun e w' => e = .returned (.agg #[.bool (usedS 23 1), .bool (usedS 23 2), .bool (usedS 23 4), .bool (usedS 23 8), .bool (usedS 23 16)]) ∧ Below w.heap.size w w' := by
  rw [show usedS 23 1 = true by decide +kernel, show usedS 23 2 = true by decide +kernel, show usedS 23 4 = false by decide +kernel, show usedS 23 8 = false by decide +kernel, show usedS 23 16 = true by decide +kernel]
  go_enter Tryz.func76, Tryz.ntmps76
  go_wp2
  (try simp only [Exit.inBlock, Exit.then])
  refine bodyPost_ret (results_cell_row rfl _ _ w.heap.size _ _ _ _ rfl (heap_alloc_new w _) Tryz.underlying100 rfl (by kernel_rfl)) rfl ⟨rfl, (Below.refl _ _).alloc (Nat.le_refl _) _⟩
theorem ruses_24 (w : World) : Calls Tryz.prog 76 #[.int .i64 24] w fun e w' => e = .returned (.agg #[.bool (usedS 24 1), .bool (usedS 24 2), .bool (usedS 24 4), .bool (usedS 24 8), .bool (usedS 24 16)]) ∧ Below w.heap.size w w' := by
  rw [show usedS 24 1 = true by decide +kernel, show usedS 24 2 = true by decide +kernel, show usedS 24 4 = false by decide +kernel, show usedS 24 8 = false by decide +kernel, show usedS 24 16 = true by decide +kernel]
  go_enter Tryz.func76, Tryz.ntmps76
  go_wp2
  (try simp only [Exit.inBlock, Exit.then])
  refine bodyPost_ret (results_cell_row rfl _ _ w.heap.size _ _ _ _ rfl (heap_alloc_new w _) Tryz.underlying100 rfl (by kernel_rfl)) rfl ⟨rfl, (Below.refl _ _).alloc (Nat.le_refl _) _⟩
theorem ruses_25 (w : World) : Calls Tryz.prog 76 #[.int .i64 25] w fun e w' => e = .returned (.agg #[.bool (usedS 25 1), .bool (usedS 25 2), .bool (usedS 25 4), .bool (usedS 25 8), .bool (usedS 25 16)]) ∧ Below w.heap.size w w' := by
  rw [show usedS 25 1 = false by decide +kernel, show usedS 25 2 = true by decide +kernel, show usedS 25 4 = true by decide +kernel, show usedS 25 8 = false by decide +kernel, show usedS 25 16 = true by decide +kernel]
  go_enter Tryz.func76, Tryz.ntmps76
  go_wp2
  (try simp only [Exit.inBlock, Exit.then])
  refine bodyPost_ret (results_cell_row rfl _ _ w.heap.size _ _ _ _ rfl (heap_alloc_new w _) Tryz.underlying100 rfl (by kernel_rfl)) rfl ⟨rfl, (Below.refl _ _).alloc (Nat.le_refl _) _⟩
theorem ruses_26 (w : World) : Calls Tryz.prog 76 #[.int .i64 26] w fun e w' => e = .returned (.agg #[.bool (usedS 26 1), .bool (usedS 26 2), .bool (usedS 26 4), .bool (usedS 26 8), .bool (usedS 26 16)]) ∧ Below w.heap.size w w' := by
  rw [show usedS 26 1 = false by decide +kernel, show usedS 26 2 = true by decide +kernel, show usedS 26 4 = true by decide +kernel, show usedS 26 8 = false by decide +kernel, show usedS 26 16 = true by decide +kernel]
  go_enter Tryz.func76, Tryz.ntmps76
  go_wp2
  (try simp only [Exit.inBlock, Exit.then])
  refine bodyPost_ret (results_cell_row rfl _ _ w.heap.size _ _ _ _ rfl (heap_alloc_new w _) Tryz.underlying100 rfl (by kernel_rfl)) rfl ⟨rfl, (Below.refl _ _).alloc (Nat.le_refl _) _⟩
theorem ruses_27 (w : World) : Calls Tryz.prog 76 #[.int .i64 27] w fun e w' => e = .returned (.agg #[.bool (usedS 27 1), .bool (usedS 27 2), .bool (usedS 27 4), .bool (usedS 27 8), .bool (usedS 27 16)]) ∧ Below w.heap.size w w' := by
  rw [show usedS 27 1 = false by decide +kernel, show usedS 27 2 = true by decide +kernel, show usedS 27 4 = true by decide +kernel, show usedS 27 8 = false by decide +kernel, show usedS 27 16 = true by decide +kernel]
  go_enter Tryz.func76, Tryz.ntmps76
  go_wp2
  (try simp only [Exit.inBlock, Exit.then])
  refine bodyPost_ret (results_cell_row rfl _ _ w.heap.size _ _ _ _ rfl (heap_alloc_new w _) Tryz.underlying100 rfl (by kernel_rfl)) rfl ⟨rfl, (Below.refl _ _).alloc (Nat.le_refl _) _⟩
theorem ruses_28 (w : World) : Calls Tryz.prog 76 #[.int .i64 28] w fun e w' => e = .returned (.agg #[.bool (usedS 28 1), .bool (usedS 28 2), .bool (usedS 28 4), .bool (usedS 28 8), .bool (usedS 28 16)]) ∧ Below w.heap.size w w' := by
  rw [show usedS 28 1 = false by decide +kernel, show usedS 28 2 = false by decide +kernel, show usedS 28 4 = false by decide +kernel, show usedS 28 8 = false by decide +kernel, show usedS 28 16 = true by decide +kernel]
  go_enter Tryz.func76, Tryz.ntmps76
  go_wp2
  (try simp only [Exit.inBlock, Exit.then])
  refine bodyPost_ret (results_cell_row rfl _ _ w.heap.size _ _ _ _ rfl (heap_alloc_new w _) Tryz.underlying100 rfl (by kernel_rfl)) rfl ⟨rfl, (Below.refl _ _).alloc (Nat.le_refl _) _⟩
theorem ruses_29 (w : World) : Calls Tryz.prog 76 #[.int .i64 29] w fun e w' => e = .returned (.agg #[.bool (usedS 29 1), .bool (usedS 29 2), .bool (usedS 29 4), .bool (usedS 29 8), .bool (usedS 29 16)]) ∧ Below w.heap.size w w' := by
  rw [show usedS 29 1 = false by decide +kernel, show usedS 29 2 = true by decide +kernel, show usedS 29 4 = false by decide +kernel, show usedS 29 8 = false by decide +kernel, show usedS 29 16 = true by decide +kernel]
  go_enter Tryz.func76, Tryz.ntmps76
  go_wp2
  (try simp only [Exit.inBlock, Exit.then])
  refine bodyPost_ret (results_cell_row rfl _ _ w.heap.size _ _ _ _ rfl (heap_alloc_new w _) Tryz.underlying100 rfl (by kernel_rfl)) rfl ⟨rfl, (Below.refl _ _).alloc (Nat.le_refl _) _⟩
theorem ruses_30 (w : World) : Calls Tryz.prog 76 #[.int .i64 30] w fun e w' => e = .returned (.agg #[.bool (usedS 30 1), .bool (usedS 30 2), .bool (usedS 30 4), .bool (usedS 30 8), .bool (usedS 30 16)]) ∧ Below w.heap.size w w' := by
  rw [show usedS 30 1 = false by decide +kernel, show usedS 30 2 = false by decide +kernel, show usedS 30 4 = false by decide +kernel, show usedS 30 8 = false by decide +kernel, show usedS 30 16 = false by decide +kernel]
  go_enter Tryz.func76, Tryz.ntmps76
  go_wp2
  (try simp only [Exit.inBlock, Exit.then])
  refine bodyPost_ret (results_cell_row rfl _ _ w.heap.size _ _ _ _ rfl (heap_alloc_new w _) Tryz.underlying100 rfl (by kernel_rfl)) rfl ⟨rfl, (Below.refl _ _).alloc (Nat.le_refl _) _⟩
theorem ruses_31 (w : World) : Calls Tryz.prog 76 #[.int .i64 31] w fun e w' => e = .returned (.agg #[.bool (usedS 31 1), .bool (usedS 31 2), .bool (usedS 31 4), .bool (usedS 31 8), .bool (usedS 31 16)]) ∧ Below w.heap.size w w' := by
  rw [show usedS 31 1 = false by decide +kernel, show usedS 31 2 = false by decide +kernel, show usedS 31 4 = false by decide +kernel, show usedS 31 8 = false by decide +kernel, show usedS 31 16 = true by decide +kernel]
  go_enter Tryz.func76, Tryz.ntmps76
  go_wp2
  (try simp only [Exit.inBlock, Exit.then])
  refine bodyPost_ret (results_cell_row rfl _ _ w.heap.size _ _ _ _ rfl (heap_alloc_new w _) Tryz.underlying100 rfl (by kernel_rfl)) rfl ⟨rfl, (Below.refl _ _).alloc (Nat.le_refl _) _⟩
theorem ruses_c (o : Int) (h0 : 1 ≤ o) (h1 : o ≤ 31) (w : World) : Calls Tryz.prog 76 #[.int .i64 o] w fun e w' => e = .returned (.agg #[.bool (usedS o 1), .bool (usedS o 2), .bool (usedS o 4), .bool (usedS o 8), .bool (usedS o 16)]) ∧ Below w.heap.size w w' := by
  rcases (show o = 1 ∨ o = 2 ∨ o = 3 ∨ o = 4 ∨ o = 5 ∨ o = 6 ∨ o = 7 ∨ o = 8 ∨ o = 9 ∨ o = 10 ∨ o = 11 ∨ o = 12 ∨ o = 13 ∨ o = 14 ∨ o = 15 ∨ o = 16 ∨ o = 17 ∨ o = 18 ∨ o = 19 ∨ o = 20 ∨ o = 21 ∨ o = 22 ∨ o = 23 ∨ o = 24 ∨ o = 25 ∨ o = 26 ∨ o = 27 ∨ o = 28 ∨ o = 29 ∨ o = 30 ∨ o = 31 by omega) with rfl | rfl | rfl | rfl | rfl | rfl | rfl | rfl | rfl | rfl | rfl | rfl | rfl | rfl | rfl | rfl | rfl | rfl | rfl | rfl | rfl | rfl | rfl | rfl | rfl | rfl | rfl | rfl | rfl | rfl | rfl
  · exact ruses_1 w
  · exact ruses_2 w
  · exact ruses_3 w
  · exact ruses_4 w
  · exact ruses_5 w
  · exact ruses_6 w
  · exact ruses_7 w
  · exact ruses_8 w
  · exact ruses_9 w
  · exact ruses_10 w
  · exact ruses_11 w
  · exact ruses_12 w
  · exact ruses_13 w
  · exact ruses_14 w
  · exact ruses_15 w
  · exact ruses_16 w
  · exact ruses_17 w
  · exact ruses_18 w
  · exact ruses_19 w
  · exact ruses_20 w
  · exact ruses_21 w
  · exact ruses_22 w
  · exact ruses_23 w
  · exact ruses_24 w
  · exact ruses_25 w
  · exact ruses_26 w
  · exact ruses_27 w
  · exact ruses_28 w
  · exact ruses_29 w
  · exact ruses_30 w
  · exact ruses_31 w
end Go.Proofs.YtjhmmfpmmgebjaaGreat
