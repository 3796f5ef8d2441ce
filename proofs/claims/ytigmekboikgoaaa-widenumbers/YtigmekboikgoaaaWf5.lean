/- Stage 9: the walk of WideNumbers. -/
import Derived.Test.YtigmekboikgoaaaWf4
import Derived.Test.YtigmekboikgoaaaWd14
namespace Go.Proofs.Ytigmekboikgoaaa
open Go.ChangeShapes Go.WideShapes Go.ChangeAt Go.RowKit
set_option linter.unusedVariables false
set_option linter.unusedSimpArgs false

set_option maxHeartbeats 20000000 in
set_option maxRecDepth 100000 in
theorem num_1n (v d r n : Nat) (s : Bool) (h1 k1 h2 k2 : Int) (hv : v < 4294967296) (hd : d < 256) (hr : r < 13) (dr1 : (d : Int) % 13 = (r : Int)) (dr2 : (d : Int).tmod 13 = (r : Int)) (hA : v < 65536) (hB : n < 1024) (E1 : ∀ w, Calls Try.prog 10 #[(Value.agg #[.int .i64 13, .bool true, .bool false, .int .i64 14, .int .i64 (r : Nat), .int .i64 0, .int .i64 0, .int .i64 2, .int .u32 (v : Nat), .bool true, .int .i64 0, .int .i64 0, .int .i64 0, .bool false, .bool false])] w fun e w' => e = .returned (.tuple #[.int .u16 h1, .int .u16 k1, .bool true]) ∧ Below w.heap.size w w') (D1 : ∀ w, Calls Try.prog 8 #[.int .u16 h1, .int .u16 k1, .bool false] w fun e w' => e = .returned (Value.agg #[.int .i64 13, .bool true, .bool false, .int .i64 14, .int .i64 (r : Nat), .int .i64 0, .int .i64 0, .int .i64 2, .int .u32 (v : Nat), .bool true, .int .i64 0, .int .i64 0, .int .i64 0, .bool false, .bool false]) ∧ Below w.heap.size w w') (CC : ∀ w, Calls Try.prog 11 #[.int .u32 v] w fun e w' => e = .returned (.tuple #[.int .u32 (n : Nat), .bool false]) ∧ Below w.heap.size w w') (E2 : ∀ w, Calls Try.prog 10 #[(Value.agg #[.int .i64 13, .bool true, .bool s, .int .i64 14, .int .i64 (r : Nat), .int .i64 0, .int .i64 0, .int .i64 0, .int .u32 (v : Nat), .bool true, .int .i64 0, .int .i64 0, .int .i64 0, .bool false, .bool false])] w fun e w' => e = .returned (.tuple #[.int .u16 0, .int .u16 0, .bool false]) ∧ Below w.heap.size w w') (E3 : ∀ w, Calls Try.prog 10 #[(Value.agg #[.int .i64 13, .bool true, .bool s, .int .i64 14, .int .i64 (r : Nat), .int .i64 0, .int .i64 0, .int .i64 1, .int .u32 (v : Nat), .bool true, .int .i64 0, .int .i64 0, .int .i64 0, .bool false, .bool false])] w fun e w' => e = .returned (.tuple #[.int .u16 0, .int .u16 0, .bool false]) ∧ Below w.heap.size w w') (w : World) : Calls Try.prog 5 #[.int .u32 v, .int .u8 d, .bool s] w fun e w' => e = .returned (.bool true) ∧ Below w.heap.size w w' := by
  have QE1 : Hid _ := E1
  have QD1 : Hid _ := D1
  have QCC : Hid _ := CC
  have QE2 : Hid _ := E2
  have QE3 : Hid _ := E3
  clear E1 D1 CC E2 E3
  have t1 : ((v : Int) < 65536) = True := by simp; omega
  have t2 : decide ((v : Int) < 65536) = true := by simp; omega
  clear hA
  have t3 : ((n : Int) / 1024 != 0) = false := by simp; omega
  clear hB
  have hr0 : (0 : Int) ≤ (r : Int) := by omega
  go_enter Try.func5, Try.ntmps5
  have S := SH.start w
  go_wp2_with (first
    | ((with_reducible refine wpl_isDst 43 ?_); first | (refine wpl_skip rfl ?_) | (refine wpl_dst 43 rfl (.int .u32 (v : Nat)) (by kernel_rfl) rfl ?_))
    | ((with_reducible refine wpl_isDst 91 ?_); first | (refine wpl_skip rfl ?_) | (refine wpl_dst 91 rfl (.int .u32 (v : Nat)) (by kernel_rfl) rfl ?_))
    | ((with_reducible refine wpl_isDst 98 ?_); first | (refine wpl_skip rfl ?_) | (refine wpl_dst 98 rfl (.bool s) (by kernel_rfl) rfl ?_))
    | (go_at_call 6; refine (known_c _).mono ?_; rintro e wf ⟨rfl, hbf⟩; replace S := S.below hbf; clear hbf)
    | (go_at_call 10; first | (with_reducible refine (QE1.out _).mono ?_; rintro e wf ⟨rfl, hbf⟩; replace S := S.below hbf; clear hbf) | (with_reducible refine (QE2.out _).mono ?_; rintro e wf ⟨rfl, hbf⟩; replace S := S.below hbf; clear hbf) | (with_reducible refine (QE3.out _).mono ?_; rintro e wf ⟨rfl, hbf⟩; replace S := S.below hbf; clear hbf))
    | (go_at_call 8; refine (QD1.out _).mono ?_; rintro e wf ⟨rfl, hbf⟩; replace S := S.below hbf; clear hbf)
    | (go_at_call 11; refine (QCC.out _).mono ?_; rintro e wf ⟨rfl, hbf⟩; replace S := S.below hbf; clear hbf))
  go_ret
  exact ⟨rfl, S.low⟩
set_option maxHeartbeats 20000000 in
set_option maxRecDepth 100000 in
theorem num_10 (v d r n : Nat) (s : Bool) (h1 k1 h2 k2 : Int) (hv : v < 4294967296) (hd : d < 256) (hr : r < 13) (dr1 : (d : Int) % 13 = (r : Int)) (dr2 : (d : Int).tmod 13 = (r : Int)) (hA : v < 65536) (hB : n < 1024) (E1 : ∀ w, Calls Try.prog 10 #[(Value.agg #[.int .i64 13, .bool true, .bool false, .int .i64 14, .int .i64 (r : Nat), .int .i64 0, .int .i64 0, .int .i64 2, .int .u32 (v : Nat), .bool true, .int .i64 0, .int .i64 0, .int .i64 0, .bool false, .bool false])] w fun e w' => e = .returned (.tuple #[.int .u16 h1, .int .u16 k1, .bool true]) ∧ Below w.heap.size w w') (D1 : ∀ w, Calls Try.prog 8 #[.int .u16 h1, .int .u16 k1, .bool false] w fun e w' => e = .returned (Value.agg #[.int .i64 13, .bool true, .bool false, .int .i64 14, .int .i64 (r : Nat), .int .i64 0, .int .i64 0, .int .i64 2, .int .u32 (v : Nat), .bool true, .int .i64 0, .int .i64 0, .int .i64 0, .bool false, .bool false]) ∧ Below w.heap.size w w') (CC : ∀ w, Calls Try.prog 11 #[.int .u32 v] w fun e w' => e = .returned (.tuple #[.int .u32 (n : Nat), .bool true]) ∧ Below w.heap.size w w') (E2 : ∀ w, Calls Try.prog 10 #[(Value.agg #[.int .i64 13, .bool true, .bool s, .int .i64 14, .int .i64 (r : Nat), .int .i64 0, .int .i64 0, .int .i64 0, .int .u32 (v : Nat), .bool true, .int .i64 0, .int .i64 0, .int .i64 0, .bool false, .bool false])] w fun e w' => e = .returned (.tuple #[.int .u16 h2, .int .u16 k2, .bool true]) ∧ Below w.heap.size w w') (E3 : ∀ w, Calls Try.prog 10 #[(Value.agg #[.int .i64 13, .bool true, .bool s, .int .i64 14, .int .i64 (r : Nat), .int .i64 0, .int .i64 0, .int .i64 1, .int .u32 (v : Nat), .bool true, .int .i64 0, .int .i64 0, .int .i64 0, .bool false, .bool false])] w fun e w' => e = .returned (.tuple #[.int .u16 0, .int .u16 0, .bool false]) ∧ Below w.heap.size w w') (D2 : ∀ w, Calls Try.prog 8 #[.int .u16 h2, .int .u16 k2, .bool false] w fun e w' => e = .returned (Value.agg #[.int .i64 13, .bool true, .bool s, .int .i64 14, .int .i64 (r : Nat), .int .i64 0, .int .i64 0, .int .i64 0, .int .u32 (v : Nat), .bool true, .int .i64 0, .int .i64 0, .int .i64 0, .bool false, .bool false]) ∧ Below w.heap.size w w') (w : World) : Calls Try.prog 5 #[.int .u32 v, .int .u8 d, .bool s] w fun e w' => e = .returned (.bool true) ∧ Below w.heap.size w w' := by
  have QE1 : Hid _ := E1
  have QD1 : Hid _ := D1
  have QCC : Hid _ := CC
  have QE2 : Hid _ := E2
  have QE3 : Hid _ := E3
  have QD2 : Hid _ := D2
  clear E1 D1 CC E2 E3 D2
  have t1 : ((v : Int) < 65536) = True := by simp; omega
  have t2 : decide ((v : Int) < 65536) = true := by simp; omega
  clear hA
  have t3 : ((n : Int) / 1024 != 0) = false := by simp; omega
  clear hB
  have hr0 : (0 : Int) ≤ (r : Int) := by omega
  go_enter Try.func5, Try.ntmps5
  have S := SH.start w
  go_wp2_with (first
    | ((with_reducible refine wpl_isDst 43 ?_); first | (refine wpl_skip rfl ?_) | (refine wpl_dst 43 rfl (.int .u32 (v : Nat)) (by kernel_rfl) rfl ?_))
    | ((with_reducible refine wpl_isDst 91 ?_); first | (refine wpl_skip rfl ?_) | (refine wpl_dst 91 rfl (.int .u32 (v : Nat)) (by kernel_rfl) rfl ?_))
    | ((with_reducible refine wpl_isDst 98 ?_); first | (refine wpl_skip rfl ?_) | (refine wpl_dst 98 rfl (.bool s) (by kernel_rfl) rfl ?_))
    | (go_at_call 6; refine (known_c _).mono ?_; rintro e wf ⟨rfl, hbf⟩; replace S := S.below hbf; clear hbf)
    | (go_at_call 10; first | (with_reducible refine (QE1.out _).mono ?_; rintro e wf ⟨rfl, hbf⟩; replace S := S.below hbf; clear hbf) | (with_reducible refine (QE2.out _).mono ?_; rintro e wf ⟨rfl, hbf⟩; replace S := S.below hbf; clear hbf) | (with_reducible refine (QE3.out _).mono ?_; rintro e wf ⟨rfl, hbf⟩; replace S := S.below hbf; clear hbf))
    | (go_at_call 8; first | (with_reducible refine (QD1.out _).mono ?_; rintro e wf ⟨rfl, hbf⟩; replace S := S.below hbf; clear hbf) | (with_reducible refine (QD2.out _).mono ?_; rintro e wf ⟨rfl, hbf⟩; replace S := S.below hbf; clear hbf))
    | (go_at_call 11; refine (QCC.out _).mono ?_; rintro e wf ⟨rfl, hbf⟩; replace S := S.below hbf; clear hbf))
  go_ret
  exact ⟨rfl, S.low⟩
set_option maxHeartbeats 20000000 in
set_option maxRecDepth 100000 in
theorem num_11 (v d r n : Nat) (s : Bool) (h1 k1 h2 k2 : Int) (hv : v < 4294967296) (hd : d < 256) (hr : r < 13) (dr1 : (d : Int) % 13 = (r : Int)) (dr2 : (d : Int).tmod 13 = (r : Int)) (hA : v < 65536) (hB : 1024 ≤ n) (E1 : ∀ w, Calls Try.prog 10 #[(Value.agg #[.int .i64 13, .bool true, .bool false, .int .i64 14, .int .i64 (r : Nat), .int .i64 0, .int .i64 0, .int .i64 2, .int .u32 (v : Nat), .bool true, .int .i64 0, .int .i64 0, .int .i64 0, .bool false, .bool false])] w fun e w' => e = .returned (.tuple #[.int .u16 h1, .int .u16 k1, .bool true]) ∧ Below w.heap.size w w') (D1 : ∀ w, Calls Try.prog 8 #[.int .u16 h1, .int .u16 k1, .bool false] w fun e w' => e = .returned (Value.agg #[.int .i64 13, .bool true, .bool false, .int .i64 14, .int .i64 (r : Nat), .int .i64 0, .int .i64 0, .int .i64 2, .int .u32 (v : Nat), .bool true, .int .i64 0, .int .i64 0, .int .i64 0, .bool false, .bool false]) ∧ Below w.heap.size w w') (CC : ∀ w, Calls Try.prog 11 #[.int .u32 v] w fun e w' => e = .returned (.tuple #[.int .u32 (n : Nat), .bool true]) ∧ Below w.heap.size w w') (E2 : ∀ w, Calls Try.prog 10 #[(Value.agg #[.int .i64 13, .bool true, .bool s, .int .i64 14, .int .i64 (r : Nat), .int .i64 0, .int .i64 0, .int .i64 1, .int .u32 (v : Nat), .bool true, .int .i64 0, .int .i64 0, .int .i64 0, .bool false, .bool false])] w fun e w' => e = .returned (.tuple #[.int .u16 h2, .int .u16 k2, .bool true]) ∧ Below w.heap.size w w') (E3 : ∀ w, Calls Try.prog 10 #[(Value.agg #[.int .i64 13, .bool true, .bool s, .int .i64 14, .int .i64 (r : Nat), .int .i64 0, .int .i64 0, .int .i64 0, .int .u32 (v : Nat), .bool true, .int .i64 0, .int .i64 0, .int .i64 0, .bool false, .bool false])] w fun e w' => e = .returned (.tuple #[.int .u16 0, .int .u16 0, .bool false]) ∧ Below w.heap.size w w') (D2 : ∀ w, Calls Try.prog 8 #[.int .u16 h2, .int .u16 k2, .bool false] w fun e w' => e = .returned (Value.agg #[.int .i64 13, .bool true, .bool s, .int .i64 14, .int .i64 (r : Nat), .int .i64 0, .int .i64 0, .int .i64 1, .int .u32 (v : Nat), .bool true, .int .i64 0, .int .i64 0, .int .i64 0, .bool false, .bool false]) ∧ Below w.heap.size w w') (w : World) : Calls Try.prog 5 #[.int .u32 v, .int .u8 d, .bool s] w fun e w' => e = .returned (.bool true) ∧ Below w.heap.size w w' := by
  have QE1 : Hid _ := E1
  have QD1 : Hid _ := D1
  have QCC : Hid _ := CC
  have QE2 : Hid _ := E2
  have QE3 : Hid _ := E3
  have QD2 : Hid _ := D2
  clear E1 D1 CC E2 E3 D2
  have t1 : ((v : Int) < 65536) = True := by simp; omega
  have t2 : decide ((v : Int) < 65536) = true := by simp; omega
  clear hA
  have t3 : ((n : Int) / 1024 != 0) = true := by simp; omega
  clear hB
  have hr0 : (0 : Int) ≤ (r : Int) := by omega
  go_enter Try.func5, Try.ntmps5
  have S := SH.start w
  go_wp2_with (first
    | ((with_reducible refine wpl_isDst 43 ?_); first | (refine wpl_skip rfl ?_) | (refine wpl_dst 43 rfl (.int .u32 (v : Nat)) (by kernel_rfl) rfl ?_))
    | ((with_reducible refine wpl_isDst 91 ?_); first | (refine wpl_skip rfl ?_) | (refine wpl_dst 91 rfl (.int .u32 (v : Nat)) (by kernel_rfl) rfl ?_))
    | ((with_reducible refine wpl_isDst 98 ?_); first | (refine wpl_skip rfl ?_) | (refine wpl_dst 98 rfl (.bool s) (by kernel_rfl) rfl ?_))
    | (go_at_call 6; refine (known_c _).mono ?_; rintro e wf ⟨rfl, hbf⟩; replace S := S.below hbf; clear hbf)
    | (go_at_call 10; first | (with_reducible refine (QE1.out _).mono ?_; rintro e wf ⟨rfl, hbf⟩; replace S := S.below hbf; clear hbf) | (with_reducible refine (QE2.out _).mono ?_; rintro e wf ⟨rfl, hbf⟩; replace S := S.below hbf; clear hbf) | (with_reducible refine (QE3.out _).mono ?_; rintro e wf ⟨rfl, hbf⟩; replace S := S.below hbf; clear hbf))
    | (go_at_call 8; first | (with_reducible refine (QD1.out _).mono ?_; rintro e wf ⟨rfl, hbf⟩; replace S := S.below hbf; clear hbf) | (with_reducible refine (QD2.out _).mono ?_; rintro e wf ⟨rfl, hbf⟩; replace S := S.below hbf; clear hbf))
    | (go_at_call 11; refine (QCC.out _).mono ?_; rintro e wf ⟨rfl, hbf⟩; replace S := S.below hbf; clear hbf))
  go_ret
  exact ⟨rfl, S.low⟩
set_option maxHeartbeats 20000000 in
set_option maxRecDepth 100000 in
theorem num_0n (v d r n : Nat) (s : Bool) (h1 k1 h2 k2 : Int) (hv : v < 4294967296) (hd : d < 256) (hr : r < 13) (dr1 : (d : Int) % 13 = (r : Int)) (dr2 : (d : Int).tmod 13 = (r : Int)) (hA : 65536 ≤ v) (hB : n < 1024) (E1 : ∀ w, Calls Try.prog 10 #[(Value.agg #[.int .i64 13, .bool true, .bool false, .int .i64 14, .int .i64 (r : Nat), .int .i64 0, .int .i64 0, .int .i64 2, .int .u32 (v : Nat), .bool true, .int .i64 0, .int .i64 0, .int .i64 0, .bool false, .bool false])] w fun e w' => e = .returned (.tuple #[.int .u16 0, .int .u16 0, .bool false]) ∧ Below w.heap.size w w') (CC : ∀ w, Calls Try.prog 11 #[.int .u32 v] w fun e w' => e = .returned (.tuple #[.int .u32 (n : Nat), .bool false]) ∧ Below w.heap.size w w') (E2 : ∀ w, Calls Try.prog 10 #[(Value.agg #[.int .i64 13, .bool true, .bool s, .int .i64 14, .int .i64 (r : Nat), .int .i64 0, .int .i64 0, .int .i64 0, .int .u32 (v : Nat), .bool true, .int .i64 0, .int .i64 0, .int .i64 0, .bool false, .bool false])] w fun e w' => e = .returned (.tuple #[.int .u16 0, .int .u16 0, .bool false]) ∧ Below w.heap.size w w') (E3 : ∀ w, Calls Try.prog 10 #[(Value.agg #[.int .i64 13, .bool true, .bool s, .int .i64 14, .int .i64 (r : Nat), .int .i64 0, .int .i64 0, .int .i64 1, .int .u32 (v : Nat), .bool true, .int .i64 0, .int .i64 0, .int .i64 0, .bool false, .bool false])] w fun e w' => e = .returned (.tuple #[.int .u16 0, .int .u16 0, .bool false]) ∧ Below w.heap.size w w') (w : World) : Calls Try.prog 5 #[.int .u32 v, .int .u8 d, .bool s] w fun e w' => e = .returned (.bool true) ∧ Below w.heap.size w w' := by
  have QE1 : Hid _ := E1
  have QCC : Hid _ := CC
  have QE2 : Hid _ := E2
  have QE3 : Hid _ := E3
  clear E1 CC E2 E3
  have t1 : ((v : Int) < 65536) = False := by simp; omega
  have t2 : decide ((v : Int) < 65536) = false := by simp; omega
  clear hA
  have t3 : ((n : Int) / 1024 != 0) = false := by simp; omega
  clear hB
  have hr0 : (0 : Int) ≤ (r : Int) := by omega
  go_enter Try.func5, Try.ntmps5
  have S := SH.start w
  go_wp2_with (first
    | ((with_reducible refine wpl_isDst 43 ?_); first | (refine wpl_skip rfl ?_) | (refine wpl_dst 43 rfl (.int .u32 (v : Nat)) (by kernel_rfl) rfl ?_))
    | ((with_reducible refine wpl_isDst 91 ?_); first | (refine wpl_skip rfl ?_) | (refine wpl_dst 91 rfl (.int .u32 (v : Nat)) (by kernel_rfl) rfl ?_))
    | ((with_reducible refine wpl_isDst 98 ?_); first | (refine wpl_skip rfl ?_) | (refine wpl_dst 98 rfl (.bool s) (by kernel_rfl) rfl ?_))
    | (go_at_call 6; refine (known_c _).mono ?_; rintro e wf ⟨rfl, hbf⟩; replace S := S.below hbf; clear hbf)
    | (go_at_call 10; first | (with_reducible refine (QE1.out _).mono ?_; rintro e wf ⟨rfl, hbf⟩; replace S := S.below hbf; clear hbf) | (with_reducible refine (QE2.out _).mono ?_; rintro e wf ⟨rfl, hbf⟩; replace S := S.below hbf; clear hbf) | (with_reducible refine (QE3.out _).mono ?_; rintro e wf ⟨rfl, hbf⟩; replace S := S.below hbf; clear hbf))
    | (go_at_call 11; refine (QCC.out _).mono ?_; rintro e wf ⟨rfl, hbf⟩; replace S := S.below hbf; clear hbf))
  go_ret
  exact ⟨rfl, S.low⟩
set_option maxHeartbeats 20000000 in
set_option maxRecDepth 100000 in
theorem num_00 (v d r n : Nat) (s : Bool) (h1 k1 h2 k2 : Int) (hv : v < 4294967296) (hd : d < 256) (hr : r < 13) (dr1 : (d : Int) % 13 = (r : Int)) (dr2 : (d : Int).tmod 13 = (r : Int)) (hA : 65536 ≤ v) (hB : n < 1024) (E1 : ∀ w, Calls Try.prog 10 #[(Value.agg #[.int .i64 13, .bool true, .bool false, .int .i64 14, .int .i64 (r : Nat), .int .i64 0, .int .i64 0, .int .i64 2, .int .u32 (v : Nat), .bool true, .int .i64 0, .int .i64 0, .int .i64 0, .bool false, .bool false])] w fun e w' => e = .returned (.tuple #[.int .u16 0, .int .u16 0, .bool false]) ∧ Below w.heap.size w w') (CC : ∀ w, Calls Try.prog 11 #[.int .u32 v] w fun e w' => e = .returned (.tuple #[.int .u32 (n : Nat), .bool true]) ∧ Below w.heap.size w w') (E2 : ∀ w, Calls Try.prog 10 #[(Value.agg #[.int .i64 13, .bool true, .bool s, .int .i64 14, .int .i64 (r : Nat), .int .i64 0, .int .i64 0, .int .i64 0, .int .u32 (v : Nat), .bool true, .int .i64 0, .int .i64 0, .int .i64 0, .bool false, .bool false])] w fun e w' => e = .returned (.tuple #[.int .u16 h2, .int .u16 k2, .bool true]) ∧ Below w.heap.size w w') (E3 : ∀ w, Calls Try.prog 10 #[(Value.agg #[.int .i64 13, .bool true, .bool s, .int .i64 14, .int .i64 (r : Nat), .int .i64 0, .int .i64 0, .int .i64 1, .int .u32 (v : Nat), .bool true, .int .i64 0, .int .i64 0, .int .i64 0, .bool false, .bool false])] w fun e w' => e = .returned (.tuple #[.int .u16 0, .int .u16 0, .bool false]) ∧ Below w.heap.size w w') (D2 : ∀ w, Calls Try.prog 8 #[.int .u16 h2, .int .u16 k2, .bool false] w fun e w' => e = .returned (Value.agg #[.int .i64 13, .bool true, .bool s, .int .i64 14, .int .i64 (r : Nat), .int .i64 0, .int .i64 0, .int .i64 0, .int .u32 (v : Nat), .bool true, .int .i64 0, .int .i64 0, .int .i64 0, .bool false, .bool false]) ∧ Below w.heap.size w w') (w : World) : Calls Try.prog 5 #[.int .u32 v, .int .u8 d, .bool s] w fun e w' => e = .returned (.bool true) ∧ Below w.heap.size w w' := by
  have QE1 : Hid _ := E1
  have QCC : Hid _ := CC
  have QE2 : Hid _ := E2
  have QE3 : Hid _ := E3
  have QD2 : Hid _ := D2
  clear E1 CC E2 E3 D2
  have t1 : ((v : Int) < 65536) = False := by simp; omega
  have t2 : decide ((v : Int) < 65536) = false := by simp; omega
  clear hA
  have t3 : ((n : Int) / 1024 != 0) = false := by simp; omega
  clear hB
  have hr0 : (0 : Int) ≤ (r : Int) := by omega
  go_enter Try.func5, Try.ntmps5
  have S := SH.start w
  go_wp2_with (first
    | ((with_reducible refine wpl_isDst 43 ?_); first | (refine wpl_skip rfl ?_) | (refine wpl_dst 43 rfl (.int .u32 (v : Nat)) (by kernel_rfl) rfl ?_))
    | ((with_reducible refine wpl_isDst 91 ?_); first | (refine wpl_skip rfl ?_) | (refine wpl_dst 91 rfl (.int .u32 (v : Nat)) (by kernel_rfl) rfl ?_))
    | ((with_reducible refine wpl_isDst 98 ?_); first | (refine wpl_skip rfl ?_) | (refine wpl_dst 98 rfl (.bool s) (by kernel_rfl) rfl ?_))
    | (go_at_call 6; refine (known_c _).mono ?_; rintro e wf ⟨rfl, hbf⟩; replace S := S.below hbf; clear hbf)
    | (go_at_call 10; first | (with_reducible refine (QE1.out _).mono ?_; rintro e wf ⟨rfl, hbf⟩; replace S := S.below hbf; clear hbf) | (with_reducible refine (QE2.out _).mono ?_; rintro e wf ⟨rfl, hbf⟩; replace S := S.below hbf; clear hbf) | (with_reducible refine (QE3.out _).mono ?_; rintro e wf ⟨rfl, hbf⟩; replace S := S.below hbf; clear hbf))
    | (go_at_call 8; refine (QD2.out _).mono ?_; rintro e wf ⟨rfl, hbf⟩; replace S := S.below hbf; clear hbf)
    | (go_at_call 11; refine (QCC.out _).mono ?_; rintro e wf ⟨rfl, hbf⟩; replace S := S.below hbf; clear hbf))
  go_ret
  exact ⟨rfl, S.low⟩
set_option maxHeartbeats 20000000 in
set_option maxRecDepth 100000 in
theorem num_01 (v d r n : Nat) (s : Bool) (h1 k1 h2 k2 : Int) (hv : v < 4294967296) (hd : d < 256) (hr : r < 13) (dr1 : (d : Int) % 13 = (r : Int)) (dr2 : (d : Int).tmod 13 = (r : Int)) (hA : 65536 ≤ v) (hB : 1024 ≤ n) (E1 : ∀ w, Calls Try.prog 10 #[(Value.agg #[.int .i64 13, .bool true, .bool false, .int .i64 14, .int .i64 (r : Nat), .int .i64 0, .int .i64 0, .int .i64 2, .int .u32 (v : Nat), .bool true, .int .i64 0, .int .i64 0, .int .i64 0, .bool false, .bool false])] w fun e w' => e = .returned (.tuple #[.int .u16 0, .int .u16 0, .bool false]) ∧ Below w.heap.size w w') (CC : ∀ w, Calls Try.prog 11 #[.int .u32 v] w fun e w' => e = .returned (.tuple #[.int .u32 (n : Nat), .bool true]) ∧ Below w.heap.size w w') (E2 : ∀ w, Calls Try.prog 10 #[(Value.agg #[.int .i64 13, .bool true, .bool s, .int .i64 14, .int .i64 (r : Nat), .int .i64 0, .int .i64 0, .int .i64 1, .int .u32 (v : Nat), .bool true, .int .i64 0, .int .i64 0, .int .i64 0, .bool false, .bool false])] w fun e w' => e = .returned (.tuple #[.int .u16 h2, .int .u16 k2, .bool true]) ∧ Below w.heap.size w w') (E3 : ∀ w, Calls Try.prog 10 #[(Value.agg #[.int .i64 13, .bool true, .bool s, .int .i64 14, .int .i64 (r : Nat), .int .i64 0, .int .i64 0, .int .i64 0, .int .u32 (v : Nat), .bool true, .int .i64 0, .int .i64 0, .int .i64 0, .bool false, .bool false])] w fun e w' => e = .returned (.tuple #[.int .u16 0, .int .u16 0, .bool false]) ∧ Below w.heap.size w w') (D2 : ∀ w, Calls Try.prog 8 #[.int .u16 h2, .int .u16 k2, .bool false] w fun e w' => e = .returned (Value.agg #[.int .i64 13, .bool true, .bool s, .int .i64 14, .int .i64 (r : Nat), .int .i64 0, .int .i64 0, .int .i64 1, .int .u32 (v : Nat), .bool true, .int .i64 0, .int .i64 0, .int .i64 0, .bool false, .bool false]) ∧ Below w.heap.size w w') (w : World) : Calls Try.prog 5 #[.int .u32 v, .int .u8 d, .bool s] w fun e w' => e = .returned (.bool true) ∧ Below w.heap.size w w' := by
  have QE1 : Hid _ := E1
  have QCC : Hid _ := CC
  have QE2 : Hid _ := E2
  have QE3 : Hid _ := E3
  have QD2 : Hid _ := D2
  clear E1 CC E2 E3 D2
  have t1 : ((v : Int) < 65536) = False := by simp; omega
  have t2 : decide ((v : Int) < 65536) = false := by simp; omega
  clear hA
  have t3 : ((n : Int) / 1024 != 0) = true := by simp; omega
  clear hB
  have hr0 : (0 : Int) ≤ (r : Int) := by omega
  go_enter Try.func5, Try.ntmps5
  have S := SH.start w
  go_wp2_with (first
    | ((with_reducible refine wpl_isDst 43 ?_); first | (refine wpl_skip rfl ?_) | (refine wpl_dst 43 rfl (.int .u32 (v : Nat)) (by kernel_rfl) rfl ?_))
    | ((with_reducible refine wpl_isDst 91 ?_); first | (refine wpl_skip rfl ?_) | (refine wpl_dst 91 rfl (.int .u32 (v : Nat)) (by kernel_rfl) rfl ?_))
    | ((with_reducible refine wpl_isDst 98 ?_); first | (refine wpl_skip rfl ?_) | (refine wpl_dst 98 rfl (.bool s) (by kernel_rfl) rfl ?_))
    | (go_at_call 6; refine (known_c _).mono ?_; rintro e wf ⟨rfl, hbf⟩; replace S := S.below hbf; clear hbf)
    | (go_at_call 10; first | (with_reducible refine (QE1.out _).mono ?_; rintro e wf ⟨rfl, hbf⟩; replace S := S.below hbf; clear hbf) | (with_reducible refine (QE2.out _).mono ?_; rintro e wf ⟨rfl, hbf⟩; replace S := S.below hbf; clear hbf) | (with_reducible refine (QE3.out _).mono ?_; rintro e wf ⟨rfl, hbf⟩; replace S := S.below hbf; clear hbf))
    | (go_at_call 8; refine (QD2.out _).mono ?_; rintro e wf ⟨rfl, hbf⟩; replace S := S.below hbf; clear hbf)
    | (go_at_call 11; refine (QCC.out _).mono ?_; rintro e wf ⟨rfl, hbf⟩; replace S := S.below hbf; clear hbf))
  go_ret
  exact ⟨rfl, S.low⟩
end Go.Proofs.Ytigmekboikgoaaa
