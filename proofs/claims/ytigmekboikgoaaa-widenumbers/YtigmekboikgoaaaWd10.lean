/- Stage 9: Encode of branches. -/
import Derived.Test.YtigmekboikgoaaaWd9
namespace Go.Proofs.Ytigmekboikgoaaa
open Go.ChangeShapes Go.WideShapes Go.ChangeAt Go.RowKit
set_option linter.unusedVariables false
set_option linter.unusedSimpArgs false

theorem ivEq_br (op c a b : Int) : ivEq (brI op c a) (brI op c b) = (a == b) := by
  cases h : (a == b)
  · have hn : a ≠ b := by simpa using h
    exact ivEq_ne fun e => hn (by have := congrArg IV.imm e; exact this)
  · have e : a = b := by simpa using h
    rw [e]
    exact ivEq_self _
theorem class54 (c v : Int) : classS (brI 54 c v).op = 6 := by show classS 54 = 6; decide
theorem class55 (c v : Int) : classS (brI 55 c v).op = 6 := by show classS 55 = 6; decide
/-- A far branch's word. -/
def farW (op v : Nat) : Nat := (if op = 54 then 4026568704 else 4026585088) + farB v
theorem farW_lt (op v : Nat) : farW op v < 4294967296 := by
  have := farB_lt v
  unfold farW
  split <;> omega
theorem farW_word (op v : Nat) (ho : op = 54 ∨ op = 55) (hv : v < 4294967296) (w : World) : Calls Try.prog 17 #[(brI (op : Nat) 14 (v : Nat)).val] w fun e w' => e = .returned (.int .u32 (farW op v : Nat)) ∧ Below w.heap.size w w' := by
  rcases ho with rfl | rfl
  · exact wordOf6_c (brI 54 14 (v : Nat)) (4026568704 + farB v) (class54 14 v) (fun w => bwB_c (brI 54 14 (v : Nat)) v hv rfl rfl rfl w) w
  · exact wordOf6_c (brI 55 14 (v : Nat)) (4026585088 + farB v) (class55 14 v) (fun w => bwL_c (brI 55 14 (v : Nat)) v hv rfl rfl w) w
theorem farW_alone (op v : Nat) (ho : op = 54 ∨ op = 55) (w : World) : Calls Try.prog 12 #[.int .u32 (farW op v : Nat)] w fun e w' => Says w (farL op v) e w' := by
  rcases ho with rfl | rfl
  · obtain ⟨_, _, _, _, _, h27, h15, _⟩ := far_fields 4026568704 v (.inl rfl)
    exact (far_B v) ▸ aloneJ_c (4026568704 + farB v) (farW_lt 54 v) h27 h15 w
  · obtain ⟨_, _, _, _, _, h27, h15, _⟩ := far_fields 4026585088 v (.inr rfl)
    exact (far_L v) ▸ aloneJ_c (4026585088 + farB v) (farW_lt 55 v) h27 h15 w
/-- Encode of a far branch: at an even number that it can say, and else. -/
theorem encFarY (op v : Nat) (ho : op = 54 ∨ op = 55) (hv : v < 4294967296) (hs : signS ((v % 33554432 / 2 * 2 : Nat) : Int) 25 = (v : Int)) (w : World) : Calls Try.prog 10 #[(brI (op : Nat) 14 (v : Nat)).val] w fun e w' => e = .returned (.tuple #[.int .u16 ((farW op v / 65536 : Nat) : Int), .int .u16 ((farW op v % 65536 : Nat) : Int), .bool true]) ∧ Below w.heap.size w w' := by
  refine encY_c (brI (op : Nat) 14 (v : Nat)) (farW op v) (farW_lt op v) (farL op v) (farW_word op v ho hv) (farW_alone op v ho) ?_ ?_ w
  · rcases ho with rfl | rfl <;> rfl
  · show (!ivEq (brI (op : Nat) 14 _) (brI (op : Nat) 14 _)) = false
    rw [ivEq_br, hs]
    simp
theorem encFarN (op v : Nat) (ho : op = 54 ∨ op = 55) (hv : v < 4294967296) (hs : signS ((v % 33554432 / 2 * 2 : Nat) : Int) 25 ≠ (v : Int)) (w : World) : Calls Try.prog 10 #[(brI (op : Nat) 14 (v : Nat)).val] w fun e w' => e = .returned (.tuple #[.int .u16 0, .int .u16 0, .bool false]) ∧ Below w.heap.size w w' := by
  refine encN_c (brI (op : Nat) 14 (v : Nat)) (farW op v) (farW_lt op v) (farL op v) (farW_word op v ho hv) (farW_alone op v ho) ?_ ?_ w
  · rcases ho with rfl | rfl <;> rfl
  · show (!ivEq (brI (op : Nat) 14 _) (brI (op : Nat) 14 _)) = true
    rw [ivEq_br]
    simpa using hs
def condL (c v : Nat) : IV := brI 54 (c : Nat) (signS ((v % 2097152 / 2 * 2 : Nat) : Int) 21)
theorem condW_word (c v : Nat) (hc : c < 14) (hv : v < 4294967296) (w : World) : Calls Try.prog 17 #[(brI 54 (c : Nat) (v : Nat)).val] w fun e w' => e = .returned (.int .u32 (condW c v : Nat)) ∧ Below w.heap.size w w' :=
  wordOf6_c (brI 54 (c : Nat) (v : Nat)) (condW c v) (class54 c v) (fun w => bwC_c (brI 54 (c : Nat) (v : Nat)) v c hv rfl rfl rfl hc w) w
theorem condW_alone (c v : Nat) (hc : c < 14) (w : World) : Calls Try.prog 12 #[.int .u32 (condW c v : Nat)] w fun e w' => Says w (condL c v) e w' := by
  obtain ⟨_, _, _, _, _, h27, h15, _, _, _, hlt⟩ := cond_fields c v hc
  have e : branchI (condW c v) = condL c v := cond_J c v hc
  exact e ▸ aloneJ_c (condW c v) hlt h27 h15 w
theorem encCondY (c v : Nat) (hc : c < 14) (hv : v < 4294967296) (hs : signS ((v % 2097152 / 2 * 2 : Nat) : Int) 21 = (v : Int)) (w : World) : Calls Try.prog 10 #[(brI 54 (c : Nat) (v : Nat)).val] w fun e w' => e = .returned (.tuple #[.int .u16 ((condW c v / 65536 : Nat) : Int), .int .u16 ((condW c v % 65536 : Nat) : Int), .bool true]) ∧ Below w.heap.size w w' := by
  refine encY_c (brI 54 (c : Nat) (v : Nat)) (condW c v) (cond_fields c v hc).2.2.2.2.2.2.2.2.2.2 (condL c v) (condW_word c v hc hv) (condW_alone c v hc) rfl ?_ w
  show (!ivEq (brI 54 (c : Nat) _) (brI 54 (c : Nat) _)) = false
  rw [ivEq_br, hs]
  simp
theorem encCondN (c v : Nat) (hc : c < 14) (hv : v < 4294967296) (hs : signS ((v % 2097152 / 2 * 2 : Nat) : Int) 21 ≠ (v : Int)) (w : World) : Calls Try.prog 10 #[(brI 54 (c : Nat) (v : Nat)).val] w fun e w' => e = .returned (.tuple #[.int .u16 0, .int .u16 0, .bool false]) ∧ Below w.heap.size w w' := by
  refine encN_c (brI 54 (c : Nat) (v : Nat)) (condW c v) (cond_fields c v hc).2.2.2.2.2.2.2.2.2.2 (condL c v) (condW_word c v hc hv) (condW_alone c v hc) rfl ?_ w
  show (!ivEq (brI 54 (c : Nat) _) (brI 54 (c : Nat) _)) = true
  rw [ivEq_br]
  simpa using hs
end Go.Proofs.Ytigmekboikgoaaa
