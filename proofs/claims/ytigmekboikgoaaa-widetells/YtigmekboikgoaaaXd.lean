/- Stage 9: branches go and come back: plain numbers. -/
import Derived.Test.YtigmekboikgoaaaWd8
namespace Go.Proofs.Ytigmekboikgoaaa
open Go.ChangeShapes Go.WideShapes Go.ChangeAt Go.RowKit
set_option linter.unusedVariables false
set_option linter.unusedSimpArgs false

theorem lk_back (a s : Nat) (ha : a < 2) (hs : s < 2) : lk (lk a s) s = a := by
  rcases (show a = 0 ∨ a = 1 by omega) with rfl | rfl <;> rcases (show s = 0 ∨ s = 1 by omega) with rfl | rfl <;> rfl
theorem far_fields (row v : Nat) (hr : row = 4026568704 ∨ row = 4026585088) : fd (row + farB v) 26 1 = fd v 24 1 ∧ fd (row + farB v) 13 1 = lk (fd v 23 1) (fd v 24 1) ∧ fd (row + farB v) 11 1 = lk (fd v 22 1) (fd v 24 1) ∧ fd (row + farB v) 16 10 = fd v 12 10 ∧ fd (row + farB v) 0 11 = fd v 1 11
    ∧ fd (row + farB v) 27 5 = 30 ∧ fd (row + farB v) 15 1 = 1 ∧ fd (row + farB v) 12 1 = 1 ∧ (row = 4026568704 → fd (row + farB v) 14 1 = 0) ∧ (row = 4026585088 → fd (row + farB v) 14 1 = 1) := by
  have f24 : fd v 24 1 < 2 := fd_lt v 24 1
  have f12 : fd v 12 10 < 1024 := fd_lt v 12 10
  have f1 : fd v 1 11 < 2048 := fd_lt v 1 11
  have l1 : lk (fd v 23 1) (fd v 24 1) < 2 := Nat.mod_lt _ (by decide)
  have l2 : lk (fd v 22 1) (fd v 24 1) < 2 := Nat.mod_lt _ (by decide)
  have e : farB v = fd v 24 1 * 67108864 + fd v 12 10 * 65536 + (lk (fd v 23 1) (fd v 24 1) * 8192 + lk (fd v 22 1) (fd v 24 1) * 2048) + fd v 1 11 := rfl
  generalize farB v = FB at *
  generalize lk (fd v 23 1) (fd v 24 1) = a1 at *
  generalize lk (fd v 22 1) (fd v 24 1) = a2 at *
  generalize fd v 24 1 = s at *
  generalize fd v 12 10 = g at *
  generalize fd v 1 11 = k at *
  unfold fd
  simp only [Nat.reducePow]
  rcases hr with rfl | rfl
  · refine ⟨?_, ?_, ?_, ?_, ?_, ?_, ?_, ?_, ?_, ?_⟩ <;> omega
  · refine ⟨?_, ?_, ?_, ?_, ?_, ?_, ?_, ?_, ?_, ?_⟩ <;> omega
theorem far_back (row v : Nat) (hr : row = 4026568704 ∨ row = 4026585088) : farX (row + farB v) = v % 33554432 / 2 * 2 := by
  obtain ⟨h1, h2, h3, h4, h5, _⟩ := far_fields row v hr
  have f24 : fd v 24 1 < 2 := fd_lt v 24 1
  have f23 : fd v 23 1 < 2 := fd_lt v 23 1
  have f22 : fd v 22 1 < 2 := fd_lt v 22 1
  have e : farX (row + farB v) = fd (row + farB v) 26 1 * 16777216 + lk (fd (row + farB v) 13 1) (fd (row + farB v) 26 1) * 8388608 + lk (fd (row + farB v) 11 1) (fd (row + farB v) 26 1) * 4194304 + fd (row + farB v) 16 10 * 4096 + fd (row + farB v) 0 11 * 2 := rfl
  rw [h1, h2, h3, h4, h5, lk_back _ _ f23 f24, lk_back _ _ f22 f24] at e
  rw [e]
  unfold fd
  simp only [Nat.reducePow]
  omega
theorem sign25 (v : Nat) (h2 : v % 2 = 0) (h : v < 16777216 ∨ (4278190080 ≤ v ∧ v < 4294967296)) : signS ((v % 33554432 / 2 * 2 : Nat) : Int) 25 = (v : Int) := by
  unfold signS
  simp only [Int.reducePow, Nat.reduceSub]
  split <;> omega
theorem sign25_even (v : Nat) (hv : v < 4294967296) : signS ((v % 33554432 / 2 * 2 : Nat) : Int) 25 % 2 = 0 := by
  unfold signS
  simp only [Int.reducePow, Nat.reduceSub]
  split <;> omega
theorem cond_fields (c v : Nat) (hc : c < 14) : fd (condW c v) 26 1 = fd v 20 1 ∧ fd (condW c v) 11 1 = fd v 19 1 ∧ fd (condW c v) 13 1 = fd v 18 1 ∧ fd (condW c v) 16 6 = fd v 12 6 ∧ fd (condW c v) 0 11 = fd v 1 11
    ∧ fd (condW c v) 27 5 = 30 ∧ fd (condW c v) 15 1 = 1 ∧ fd (condW c v) 12 1 = 0 ∧ fd (condW c v) 14 1 = 0 ∧ fd (condW c v) 22 4 = c ∧ condW c v < 4294967296 := by
  have f20 : fd v 20 1 < 2 := fd_lt v 20 1
  have f19 : fd v 19 1 < 2 := fd_lt v 19 1
  have f18 : fd v 18 1 < 2 := fd_lt v 18 1
  have f12 : fd v 12 6 < 64 := fd_lt v 12 6
  have f1 : fd v 1 11 < 2048 := fd_lt v 1 11
  have e : condW c v = 4026531840 + fd v 20 1 * 67108864 + c * 4194304 + fd v 12 6 * 65536 + 32768 + fd v 18 1 * 8192 + fd v 19 1 * 2048 + fd v 1 11 := rfl
  generalize condW c v = FB at *
  generalize fd v 20 1 = s at *
  generalize fd v 19 1 = d at *
  generalize fd v 18 1 = t at *
  generalize fd v 12 6 = g at *
  generalize fd v 1 11 = k at *
  unfold fd
  simp only [Nat.reducePow]
  refine ⟨?_, ?_, ?_, ?_, ?_, ?_, ?_, ?_, ?_, ?_, ?_⟩ <;> omega
theorem cond_back (c v : Nat) (hc : c < 14) : condX (condW c v) = v % 2097152 / 2 * 2 := by
  obtain ⟨h1, h2, h3, h4, h5, _⟩ := cond_fields c v hc
  have e : condX (condW c v) = fd (condW c v) 26 1 * 1048576 + fd (condW c v) 11 1 * 524288 + fd (condW c v) 13 1 * 262144 + fd (condW c v) 16 6 * 4096 + fd (condW c v) 0 11 * 2 := rfl
  rw [h1, h2, h3, h4, h5] at e
  rw [e]
  unfold fd
  simp only [Nat.reducePow]
  omega
theorem sign21 (v : Nat) (h2 : v % 2 = 0) (h : v < 1048576 ∨ (4293918720 ≤ v ∧ v < 4294967296)) : signS ((v % 2097152 / 2 * 2 : Nat) : Int) 21 = (v : Int) := by
  unfold signS
  simp only [Int.reducePow, Nat.reduceSub]
  split <;> omega
theorem sign21_far : signS ((1048576 % 2097152 / 2 * 2 : Nat) : Int) 21 = 4293918720 := by decide
def farL (op v : Nat) : IV := brI op 14 (signS ((v % 33554432 / 2 * 2 : Nat) : Int) 25)
theorem far_B (v : Nat) : branchI (4026568704 + farB v) = farL 54 v := by
  obtain ⟨_, _, _, _, _, _, _, h12, h14, _⟩ := far_fields 4026568704 v (.inl rfl)
  rw [brI2 _ (h14 rfl) h12, far_back 4026568704 v (.inl rfl)]
  rfl
theorem far_L (v : Nat) : branchI (4026585088 + farB v) = farL 55 v := by
  obtain ⟨_, _, _, _, _, _, _, h12, _, h14⟩ := far_fields 4026585088 v (.inr rfl)
  rw [brI3 _ (h14 rfl) h12, far_back 4026585088 v (.inr rfl)]
  rfl
theorem cond_J (c v : Nat) (hc : c < 14) : branchI (condW c v) = brI 54 (c : Nat) (signS ((v % 2097152 / 2 * 2 : Nat) : Int) 21) := by
  obtain ⟨_, _, _, _, _, _, _, h12, h14, h22, _⟩ := cond_fields c v hc
  rw [brI0 _ h14 h12]
  unfold condI
  rw [h22, cond_back c v hc, nble, show decide (14 ≤ c) = false by simp; omega]
  exact cond_false _ _
end Go.Proofs.Ytigmekboikgoaaa
namespace Go.Proofs.Ytigmekboikgoaaa
open Go.ChangeShapes Go.WideShapes Go.ChangeAt Go.RowKit
set_option linter.unusedVariables false
set_option linter.unusedSimpArgs false

theorem ivEq_br (op c a b : Int) : ivEq (brI op c a) (brI op c b) = (a == b) := by
  cases h : (a == b)
  · have hn : a ≠ b := by simpa using h
    exact ivEq_ne fun e => hn (by have := congrArg IV.imm e; exact this)
  · have e : a = b := by simpa using h
    rw [e]
    exact ivEq_self _
theorem class54 (c v : Int) : classS (brI 54 c v).op = 6 := by show classS 54 = 6; decide
theorem class55 (c v : Int) : classS (brI 55 c v).op = 6 := by show classS 55 = 6; decide
/-- A far branch's word. -/
def farW (op v : Nat) : Nat := (if op = 54 then 4026568704 else 4026585088) + farB v
theorem farW_lt (op v : Nat) : farW op v < 4294967296 := by
  have := farB_lt v
  unfold farW
  split <;> omega
theorem farW_word (op v : Nat) (ho : op = 54 ∨ op = 55) (hv : v < 4294967296) (w : World) : Calls Try.prog 17 #[(brI (op : Nat) 14 (v : Nat)).val] w fun e w' => e = .returned (.int .u32 (farW op v : Nat)) ∧ Below w.heap.size w w' := by
  rcases ho with rfl | rfl
  · exact wordOf6_c (brI 54 14 (v : Nat)) (4026568704 + farB v) (class54 14 v) (fun w => bwB_c (brI 54 14 (v : Nat)) v hv rfl rfl rfl w) w
  · exact wordOf6_c (brI 55 14 (v : Nat)) (4026585088 + farB v) (class55 14 v) (fun w => bwL_c (brI 55 14 (v : Nat)) v hv rfl rfl w) w
theorem farW_alone (op v : Nat) (ho : op = 54 ∨ op = 55) (w : World) : Calls Try.prog 12 #[.int .u32 (farW op v : Nat)] w fun e w' => Says w (farL op v) e w' := by
  rcases ho with rfl | rfl
  · obtain ⟨_, _, _, _, _, h27, h15, _⟩ := far_fields 4026568704 v (.inl rfl)
    exact (far_B v) ▸ aloneJ_c (4026568704 + farB v) (farW_lt 54 v) h27 h15 w
  · obtain ⟨_, _, _, _, _, h27, h15, _⟩ := far_fields 4026585088 v (.inr rfl)
    exact (far_L v) ▸ aloneJ_c (4026585088 + farB v) (farW_lt 55 v) h27 h15 w
/-- Encode of a far branch: at an even number that it can say, and else. -/
theorem encFarY (op v : Nat) (ho : op = 54 ∨ op = 55) (hv : v < 4294967296) (hs : signS ((v % 33554432 / 2 * 2 : Nat) : Int) 25 = (v : Int)) (w : World) : Calls Try.prog 10 #[(brI (op : Nat) 14 (v : Nat)).val] w fun e w' => e = .returned (.tuple #[.int .u16 ((farW op v / 65536 : Nat) : Int), .int .u16 ((farW op v % 65536 : Nat) : Int), .bool true]) ∧ Below w.heap.size w w' := by
  refine encY_c (brI (op : Nat) 14 (v : Nat)) (farW op v) (farW_lt op v) (farL op v) (farW_word op v ho hv) (farW_alone op v ho) ?_ ?_ w
  · rcases ho with rfl | rfl <;> rfl
  · show (!ivEq (brI (op : Nat) 14 _) (brI (op : Nat) 14 _)) = false
    rw [ivEq_br, hs]
    simp
theorem encFarN (op v : Nat) (ho : op = 54 ∨ op = 55) (hv : v < 4294967296) (hs : signS ((v % 33554432 / 2 * 2 : Nat) : Int) 25 ≠ (v : Int)) (w : World) : Calls Try.prog 10 #[(brI (op : Nat) 14 (v : Nat)).val] w fun e w' => e = .returned (.tuple #[.int .u16 0, .int .u16 0, .bool false]) ∧ Below w.heap.size w w' := by
  refine encN_c (brI (op : Nat) 14 (v : Nat)) (farW op v) (farW_lt op v) (farL op v) (farW_word op v ho hv) (farW_alone op v ho) ?_ ?_ w
  · rcases ho with rfl | rfl <;> rfl
  · show (!ivEq (brI (op : Nat) 14 _) (brI (op : Nat) 14 _)) = true
    rw [ivEq_br]
    simpa using hs
def condL (c v : Nat) : IV := brI 54 (c : Nat) (signS ((v % 2097152 / 2 * 2 : Nat) : Int) 21)
theorem condW_word (c v : Nat) (hc : c < 14) (hv : v < 4294967296) (w : World) : Calls Try.prog 17 #[(brI 54 (c : Nat) (v : Nat)).val] w fun e w' => e = .returned (.int .u32 (condW c v : Nat)) ∧ Below w.heap.size w w' :=
  wordOf6_c (brI 54 (c : Nat) (v : Nat)) (condW c v) (class54 c v) (fun w => bwC_c (brI 54 (c : Nat) (v : Nat)) v c hv rfl rfl rfl hc w) w
theorem condW_alone (c v : Nat) (hc : c < 14) (w : World) : Calls Try.prog 12 #[.int .u32 (condW c v : Nat)] w fun e w' => Says w (condL c v) e w' := by
  obtain ⟨_, _, _, _, _, h27, h15, _, _, _, hlt⟩ := cond_fields c v hc
  have e : branchI (condW c v) = condL c v := cond_J c v hc
  exact e ▸ aloneJ_c (condW c v) hlt h27 h15 w
theorem encCondY (c v : Nat) (hc : c < 14) (hv : v < 4294967296) (hs : signS ((v % 2097152 / 2 * 2 : Nat) : Int) 21 = (v : Int)) (w : World) : Calls Try.prog 10 #[(brI 54 (c : Nat) (v : Nat)).val] w fun e w' => e = .returned (.tuple #[.int .u16 ((condW c v / 65536 : Nat) : Int), .int .u16 ((condW c v % 65536 : Nat) : Int), .bool true]) ∧ Below w.heap.size w w' := by
  refine encY_c (brI 54 (c : Nat) (v : Nat)) (condW c v) (cond_fields c v hc).2.2.2.2.2.2.2.2.2.2 (condL c v) (condW_word c v hc hv) (condW_alone c v hc) rfl ?_ w
  show (!ivEq (brI 54 (c : Nat) _) (brI 54 (c : Nat) _)) = false
  rw [ivEq_br, hs]
  simp
theorem encCondN (c v : Nat) (hc : c < 14) (hv : v < 4294967296) (hs : signS ((v % 2097152 / 2 * 2 : Nat) : Int) 21 ≠ (v : Int)) (w : World) : Calls Try.prog 10 #[(brI 54 (c : Nat) (v : Nat)).val] w fun e w' => e = .returned (.tuple #[.int .u16 0, .int .u16 0, .bool false]) ∧ Below w.heap.size w w' := by
  refine encN_c (brI 54 (c : Nat) (v : Nat)) (condW c v) (cond_fields c v hc).2.2.2.2.2.2.2.2.2.2 (condL c v) (condW_word c v hc hv) (condW_alone c v hc) rfl ?_ w
  show (!ivEq (brI 54 (c : Nat) _) (brI 54 (c : Nat) _)) = true
  rw [ivEq_br]
  simpa using hs
end Go.Proofs.Ytigmekboikgoaaa
namespace Go.Proofs.Ytigmekboikgoaaa
open Go.ChangeShapes Go.WideShapes Go.ChangeAt Go.RowKit
set_option linter.unusedVariables false
set_option linter.unusedSimpArgs false

def movI : IV := ⟨13, true, false, 14, 0, 0, 0, 2, 5, true, 0, 0, 0, false, false⟩
set_option maxHeartbeats 4000000 in
set_option maxRecDepth 100000 in
theorem aloneF_c (w : World) : Calls Try.prog 12 #[.int .u32 4294967295] w fun e w' => Says w (noneI 64 4294967295) e w' := by
  unfold Says
  have k1 : bits .and .u32 4294967295 4160782336 = 4160782336 := by decide +kernel
  have k2 : bits .and .u32 4294967295 4261412864 = 4261412864 := by decide +kernel
  have CN : Hid (∀ w, Calls Try.prog 13 #[.int .i64 64, .int .u32 4294967295] w fun e w' => e = .returned (noneI 64 4294967295).val ∧ Below w.heap.size w w') := fun w => none_c 64 4294967295 (by decide) w
  go_enter Try.func12, Try.ntmps12
  have S := SH.start w
  go_wp2_with (first
    | (go_at_call 13; refine (CN.out _).mono ?_; rintro e wf ⟨rfl, hbf⟩; replace S := S.below hbf; clear hbf)
    | ((with_reducible refine wpl_is ?_); first
      | (refine SH.alloc (L := []) S rfl 30 rfl (Cel.iv IV.zero) zeroIV ?_; clear S; intro b1 w1 S)
      | (refine S.storeAll rfl 30 _ _ rfl b1 (Cel.iv (noneI 64 4294967295)) rfl rfl 0 _ rfl rfl (one_iv _) (szIV _) ?_; clear S; intro w2 S; simp only [List.set_cons_zero] at S)))
  (try simp only [Exit.inBlock, Exit.then])
  refine bodyPost_ret (S.results rfl _ _ rfl 0 _ rfl _ Try.underlying30 rfl (szIV _)) rfl ⟨rfl, S.low⟩
set_option maxHeartbeats 4000000 in
set_option maxRecDepth 100000 in
theorem numX_c (w : World) : Calls Try.prog 51 #[.int .u32 4064280581] w fun e w' => e = .returned (.int .u32 5) ∧ Below w.heap.size w w' := by
  have F26 : Hid (∀ w, Calls Try.prog 46 #[.int .u32 4064280581, .int .i64 26, .int .i64 1] w fun e w' => e = .returned (.int .i64 0) ∧ Below w.heap.size w w') := fun w => by
    have h := field_26_1 4064280581 (by decide) w
    rw [show fd 4064280581 26 1 = 0 from rfl] at h
    exact h
  have F12 : Hid (∀ w, Calls Try.prog 46 #[.int .u32 4064280581, .int .i64 12, .int .i64 3] w fun e w' => e = .returned (.int .i64 0) ∧ Below w.heap.size w w') := fun w => by
    have h := field_12_3 4064280581 (by decide) w
    rw [show fd 4064280581 12 3 = 0 from rfl] at h
    exact h
  have F0 : Hid (∀ w, Calls Try.prog 46 #[.int .u32 4064280581, .int .i64 0, .int .i64 8] w fun e w' => e = .returned (.int .i64 5) ∧ Below w.heap.size w w') := fun w => by
    have h := field_0_8 4064280581 (by decide) w
    rw [show fd 4064280581 0 8 = 5 from rfl] at h
    exact h
  have o1 : bits .or .i64 0 0 = 0 := by decide +kernel
  have o2 : bits .or .i64 0 5 = 5 := by decide +kernel
  go_enter Try.func51, Try.ntmps51
  have S := SH.start w
  go_wp2_with (first
    | (go_at_call 46; (first | with_reducible refine (F26.out _).mono ?_ | with_reducible refine (F12.out _).mono ?_ | with_reducible refine (F0.out _).mono ?_); rintro e wf ⟨rfl, hbf⟩; replace S := S.below hbf; clear hbf))
  go_ret
  exact ⟨rfl, S.low⟩
set_option maxHeartbeats 4000000 in
set_option maxRecDepth 100000 in
theorem plainX_c (w : World) : Calls Try.prog 23 #[.int .u32 4064280581] w fun e w' => Says w movI e w' := by
  unfold Says
  have F8 : Hid (∀ w, Calls Try.prog 46 #[.int .u32 4064280581, .int .i64 8, .int .i64 4] w fun e w' => e = .returned (.int .i64 0) ∧ Below w.heap.size w w') := fun w => by
    have h := field_8_4 4064280581 (by decide) w
    rw [show fd 4064280581 8 4 = 0 from rfl] at h
    exact h
  have F16 : Hid (∀ w, Calls Try.prog 46 #[.int .u32 4064280581, .int .i64 16, .int .i64 4] w fun e w' => e = .returned (.int .i64 0) ∧ Below w.heap.size w w') := fun w => by
    have h := field_16_4 4064280581 (by decide) w
    rw [show fd 4064280581 16 4 = 0 from rfl] at h
    exact h
  have k1 : bits .and .u32 4064280581 32505856 = 4194304 := by decide +kernel
  have o1 : bits .or .u32 0 5 = 5 := by decide +kernel
  have CK : Hid (∀ w, Calls Try.prog 47 #[movI.val, .bool true, .int .u32 4064280581] w fun e w' => e = .returned movI.val ∧ Below w.heap.size w w') := fun w => checked_c movI true 4064280581 (by decide) w
  have CSEC : Hid (∀ w, Calls Try.prog 53 #[(startI 13 0 0).val, .int .u32 5, .int .i64 2] w fun e w' => e = .returned movI.val ∧ Below w.heap.size w w') := fun w => sec_c (startI 13 0 0) 5 2 w
  have CST : Hid (∀ w, Calls Try.prog 45 #[.int .i64 13, .int .i64 0, .int .i64 0] w fun e w' => e = .returned (startI 13 0 0).val ∧ Below w.heap.size w w') := fun w => start_c 13 0 0 w
  go_enter Try.func23, Try.ntmps23
  have S := SH.start w
  go_wp2_with (first
    | (go_at_call 46; (first | with_reducible refine (F8.out _).mono ?_ | with_reducible refine (F16.out _).mono ?_); rintro e wf ⟨rfl, hbf⟩; replace S := S.below hbf; clear hbf)
    | (go_at_call 51; refine (numX_c _).mono ?_; rintro e wf ⟨rfl, hbf⟩; replace S := S.below hbf; clear hbf)
    | (go_at_call 45; refine (CST.out _).mono ?_; rintro e wf ⟨rfl, hbf⟩; replace S := S.below hbf; clear hbf)
    | (go_at_call 53; refine (CSEC.out _).mono ?_; rintro e wf ⟨rfl, hbf⟩; replace S := S.below hbf; clear hbf)
    | (go_at_call 47; refine (CK.out _).mono ?_; rintro e wf ⟨rfl, hbf⟩; replace S := S.below hbf; clear hbf)
    | ((with_reducible refine wpl_is ?_); first
      | (refine SH.alloc (L := []) S rfl 30 rfl (Cel.iv IV.zero) zeroIV ?_; clear S; intro b1 w1 S)
      | (refine S.storeAll rfl 30 _ _ rfl b1 (Cel.iv movI) rfl rfl 0 _ rfl rfl (one_iv _) (szIV _) ?_; clear S; intro w2 S; simp only [List.set_cons_zero] at S)))
  (try simp only [Exit.inBlock, Exit.then])
  refine bodyPost_ret (S.results rfl _ _ rfl 0 _ rfl _ Try.underlying30 rfl (szIV _)) rfl ⟨rfl, S.low⟩
set_option maxHeartbeats 4000000 in
set_option maxRecDepth 100000 in
theorem aloneX_c (w : World) : Calls Try.prog 12 #[.int .u32 4064280581] w fun e w' => Says w movI e w' := by
  unfold Says
  have k1 : bits .and .u32 4064280581 4160782336 = 4026531840 := by decide +kernel
  have k2 : bits .and .u32 4064280581 4261412864 = 4060086272 := by decide +kernel
  have CP : Hid (∀ w, Calls Try.prog 23 #[.int .u32 4064280581] w fun e w' => e = .returned movI.val ∧ Below w.heap.size w w') := plainX_c
  go_enter Try.func12, Try.ntmps12
  have S := SH.start w
  go_wp2_with (first
    | (go_at_call 23; refine (CP.out _).mono ?_; rintro e wf ⟨rfl, hbf⟩; replace S := S.below hbf; clear hbf)
    | ((with_reducible refine wpl_is ?_); first
      | (refine SH.alloc (L := []) S rfl 30 rfl (Cel.iv IV.zero) zeroIV ?_; clear S; intro b1 w1 S)
      | (refine S.storeAll rfl 30 _ _ rfl b1 (Cel.iv movI) rfl rfl 0 _ rfl rfl (one_iv _) (szIV _) ?_; clear S; intro w2 S; simp only [List.set_cons_zero] at S)))
  (try simp only [Exit.inBlock, Exit.then])
  refine bodyPost_ret (S.results rfl _ _ rfl 0 _ rfl _ Try.underlying30 rfl (szIV _)) rfl ⟨rfl, S.low⟩
set_option maxHeartbeats 4000000 in
set_option maxRecDepth 100000 in
theorem four0_c (w : World) : Calls Try.prog 67 #[.int .i64 0, .int .i64 0, .int .i64 0, .int .i64 0] w fun e w' => e = .returned (.int .u32 0) ∧ w' = w := by
  have P8 : Hid (∀ w, Calls Try.prog 74 #[.int .i64 0, .int .i64 8, .int .i64 4] w fun e w' => e = .returned (.int .u32 0) ∧ w' = w) := fun w => by
    have h := put_8_4 0 (by decide) w
    rw [show 0 % 16 * 256 = 0 from rfl] at h
    exact h
  have P16 : Hid (∀ w, Calls Try.prog 74 #[.int .i64 0, .int .i64 16, .int .i64 4] w fun e w' => e = .returned (.int .u32 0) ∧ w' = w) := fun w => by
    have h := put_16_4 0 (by decide) w
    rw [show 0 % 16 * 65536 = 0 from rfl] at h
    exact h
  have P0 : Hid (∀ w, Calls Try.prog 74 #[.int .i64 0, .int .i64 0, .int .i64 4] w fun e w' => e = .returned (.int .u32 0) ∧ w' = w) := fun w => by
    have h := put_0_4 0 (by decide) w
    rw [show 0 % 16 * 1 = 0 from rfl] at h
    exact h
  have P12 : Hid (∀ w, Calls Try.prog 74 #[.int .i64 0, .int .i64 12, .int .i64 4] w fun e w' => e = .returned (.int .u32 0) ∧ w' = w) := fun w => by
    have h := put_12_4 0 (by decide) w
    rw [show 0 % 16 * 4096 = 0 from rfl] at h
    exact h
  have o1 : bits .or .u32 0 0 = 0 := by decide +kernel
  go_enter Try.func67, Try.ntmps67
  go_wp2_with (first
    | (go_at_call 74; (first | with_reducible refine (P8.out _).mono ?_ | with_reducible refine (P16.out _).mono ?_ | with_reducible refine (P0.out _).mono ?_ | with_reducible refine (P12.out _).mono ?_); rintro e wf ⟨rfl, rfl⟩))
  go_ret
  exact ⟨rfl, rfl⟩
set_option maxHeartbeats 4000000 in
set_option maxRecDepth 100000 in
theorem numB5_c (w : World) : Calls Try.prog 72 #[.int .i64 5] w fun e w' => e = .returned (.int .u32 5) ∧ w' = w := by
  have P26 : Hid (∀ w, Calls Try.prog 74 #[.int .i64 0, .int .i64 26, .int .i64 1] w fun e w' => e = .returned (.int .u32 0) ∧ w' = w) := fun w => by
    have h := put_26_1 0 (by decide) w
    rw [show 0 % 2 * 67108864 = 0 from rfl] at h
    exact h
  have P12 : Hid (∀ w, Calls Try.prog 74 #[.int .i64 0, .int .i64 12, .int .i64 3] w fun e w' => e = .returned (.int .u32 0) ∧ w' = w) := fun w => by
    have h := put_12_3 0 (by decide) w
    rw [show 0 % 8 * 4096 = 0 from rfl] at h
    exact h
  have P0 : Hid (∀ w, Calls Try.prog 74 #[.int .i64 5, .int .i64 0, .int .i64 8] w fun e w' => e = .returned (.int .u32 5) ∧ w' = w) := fun w => by
    have h := put_0_8 5 (by decide) w
    rw [show 5 % 256 * 1 = 5 from rfl] at h
    exact h
  have o1 : bits .or .u32 0 0 = 0 := by decide +kernel
  have o2 : bits .or .u32 0 5 = 5 := by decide +kernel
  go_enter Try.func72, Try.ntmps72
  go_wp2_with (first
    | (go_at_call 74; (first | with_reducible refine (P26.out _).mono ?_ | with_reducible refine (P12.out _).mono ?_ | with_reducible refine (P0.out _).mono ?_); rintro e wf ⟨rfl, rfl⟩))
  go_ret
  exact ⟨rfl, rfl⟩
set_option maxHeartbeats 4000000 in
set_option maxRecDepth 100000 in
theorem plainW_c (w : World) : Calls Try.prog 69 #[movI.val] w fun e w' => e = .returned (.int .u32 4064280581) ∧ Below w.heap.size w w' := by
  have o1 : bits .or .u32 4064280576 0 = 4064280576 := by decide +kernel
  have o2 : bits .or .u32 4064280576 5 = 4064280581 := by decide +kernel
  go_enter Try.func69, Try.ntmps69
  have S := SH.start w
  go_wp2_with (first
    | (go_at_call 67; refine (four0_c _).mono ?_; rintro e wf ⟨rfl, rfl⟩)
    | (go_at_call 72; refine (numB5_c _).mono ?_; rintro e wf ⟨rfl, rfl⟩)
    | ((with_reducible refine wpl_isDst 1 ?_); (refine SH.box (L := []) S rfl 30 _ rfl (Cel.iv movI) rfl ?_; clear S; intro b2 w0 S))
    | ((with_reducible refine wpl_isDst 5 ?_); (refine S.ld 28 _ rfl _ 8 rfl 0 (Cel.iv movI) rfl (.int .u32 5) rfl _ Try.underlying28 rfl rfl ?_))
    | ((with_reducible refine wpl_isDst 8 ?_); (refine S.ld 3 _ rfl _ 0 rfl 0 (Cel.iv movI) rfl (.int .i64 13) rfl _ Try.underlying3 rfl rfl ?_))
    | ((with_reducible refine wpl_isDst 34 ?_); (refine S.ld 3 _ rfl _ 4 rfl 0 (Cel.iv movI) rfl (.int .i64 0) rfl _ Try.underlying3 rfl rfl ?_)))
  go_ret
  exact ⟨rfl, S.low⟩
set_option maxHeartbeats 4000000 in
set_option maxRecDepth 100000 in
theorem dataWX_c (w : World) : Calls Try.prog 36 #[movI.val] w fun e w' => e = .returned (.int .u32 4064280581) ∧ Below w.heap.size w w' := by
  go_enter Try.func36, Try.ntmps36
  have S := SH.start w
  go_wp2_with (first
    | (go_at_call 69; refine (plainW_c _).mono ?_; rintro e wf ⟨rfl, hbf⟩; replace S := S.below hbf; clear hbf)
    | ((with_reducible refine wpl_is ?_); first
      | (refine SH.box (L := []) S rfl 30 _ rfl (Cel.iv movI) rfl ?_; clear S; intro b2 w0 S)
      | (refine S.ld 3 _ rfl _ 0 rfl 0 (Cel.iv movI) rfl (.int .i64 13) rfl _ Try.underlying3 rfl rfl ?_)
      | (refine S.ld 3 _ rfl _ 7 rfl 0 (Cel.iv movI) rfl (.int .i64 2) rfl _ Try.underlying3 rfl rfl ?_)
      | (refine S.ld 4 _ rfl _ 9 rfl 0 (Cel.iv movI) rfl (.bool true) rfl _ Try.underlying4 rfl rfl ?_)
      | (refine S.ldAll 30 _ rfl _ rfl 0 (Cel.iv movI) rfl _ Try.underlying30 rfl (szIV _) rfl ?_)))
  go_ret
  exact ⟨rfl, S.low⟩
set_option maxHeartbeats 4000000 in
set_option maxRecDepth 100000 in
theorem wordX_c (w : World) : Calls Try.prog 17 #[movI.val] w fun e w' => e = .returned (.int .u32 4064280581) ∧ Below w.heap.size w w' := by
  have CC : Hid (∀ w1, Calls Try.prog 35 #[.int .i64 13] w1 fun e w' => e = .returned (.int .i64 1) ∧ w' = w1) := fun w1 => class_c 13 w1
  go_enter Try.func17, Try.ntmps17
  have S := SH.start w
  go_wp2_with (first
    | (go_at_call 35; refine (CC.out _).mono ?_; rintro e wf ⟨rfl, rfl⟩)
    | (go_at_call 36; refine (dataWX_c _).mono ?_; rintro e wf ⟨rfl, hbf⟩; replace S := S.below hbf; clear hbf)
    | ((with_reducible refine wpl_is ?_); first
      | (refine SH.box (L := []) S rfl 30 _ rfl (Cel.iv movI) rfl ?_; clear S; intro b2 w0 S)
      | (refine S.ld 3 _ rfl _ 0 rfl 0 (Cel.iv movI) rfl (.int .i64 13) rfl _ Try.underlying3 rfl rfl ?_)
      | (refine S.ldAll 30 _ rfl _ rfl 0 (Cel.iv movI) rfl _ Try.underlying30 rfl (szIV _) rfl ?_)))
  go_ret
  exact ⟨rfl, S.low⟩
end Go.Proofs.Ytigmekboikgoaaa
