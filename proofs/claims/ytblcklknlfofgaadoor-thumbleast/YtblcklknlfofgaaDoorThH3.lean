/- Stage 8: what Encode tells of each word, reckoned out by the kernel. -/
import Derived.Test.YtblcklknlfofgaaDoorThH1
namespace Go.Proofs.YtblcklknlfofgaaDoor
open Go.RowKit
set_option linter.unusedVariables false
set_option maxRecDepth 100000

theorem chk_false_0 : all4k (chkW false) 0 = true := by kernel_rfl
theorem chk_false_1 : all4k (chkW false) 1 = true := by kernel_rfl
theorem chk_false_2 : all4k (chkW false) 2 = true := by kernel_rfl
theorem chk_false_3 : all4k (chkW false) 3 = true := by kernel_rfl
theorem chk_false_4 : all4k (chkW false) 4 = true := by kernel_rfl
theorem chk_false_5 : all4k (chkW false) 5 = true := by kernel_rfl
theorem chk_false_6 : all4k (chkW false) 6 = true := by kernel_rfl
theorem chk_false_7 : all4k (chkW false) 7 = true := by kernel_rfl
theorem chk_false_8 : all4k (chkW false) 8 = true := by kernel_rfl
theorem chk_false_9 : all4k (chkW false) 9 = true := by kernel_rfl
theorem chk_false_10 : all4k (chkW false) 10 = true := by kernel_rfl
theorem chk_false_11 : all4k (chkW false) 11 = true := by kernel_rfl
theorem chk_false_12 : all4k (chkW false) 12 = true := by kernel_rfl
theorem chk_false_13 : all4k (chkW false) 13 = true := by kernel_rfl
theorem chk_false_14 : all4k (chkW false) 14 = true := by kernel_rfl
theorem chk_false_15 : all4k (chkW false) 15 = true := by kernel_rfl
theorem chkW_false (h : Nat) (hh : h < 65536) : chkW false h = true := by
  rcases (show h / 4096 = 0 ∨ h / 4096 = 1 ∨ h / 4096 = 2 ∨ h / 4096 = 3 ∨ h / 4096 = 4 ∨ h / 4096 = 5 ∨ h / 4096 = 6 ∨ h / 4096 = 7 ∨ h / 4096 = 8 ∨ h / 4096 = 9 ∨ h / 4096 = 10 ∨ h / 4096 = 11 ∨ h / 4096 = 12 ∨ h / 4096 = 13 ∨ h / 4096 = 14 ∨ h / 4096 = 15 by omega) with q | q | q | q | q | q | q | q | q | q | q | q | q | q | q | q
  · exact all4k_at chk_false_0 h q
  · exact all4k_at chk_false_1 h q
  · exact all4k_at chk_false_2 h q
  · exact all4k_at chk_false_3 h q
  · exact all4k_at chk_false_4 h q
  · exact all4k_at chk_false_5 h q
  · exact all4k_at chk_false_6 h q
  · exact all4k_at chk_false_7 h q
  · exact all4k_at chk_false_8 h q
  · exact all4k_at chk_false_9 h q
  · exact all4k_at chk_false_10 h q
  · exact all4k_at chk_false_11 h q
  · exact all4k_at chk_false_12 h q
  · exact all4k_at chk_false_13 h q
  · exact all4k_at chk_false_14 h q
  · exact all4k_at chk_false_15 h q
end Go.Proofs.YtblcklknlfofgaaDoor
namespace Go.Proofs.YtblcklknlfofgaaDoor
set_option linter.unusedVariables false
set_option maxRecDepth 100000

theorem imm_false : all16 (fun h => Nat.ble (decN h false).imm 4294967295) = true := by kernel_rfl
theorem imm_true : all16 (fun h => Nat.ble (decN h true).imm 4294967295) = true := by kernel_rfl
theorem okD (h : Nat) (hh : h < 65536) (b : Bool) : OKi (decN h b).iv := by
  have k : Nat.ble (decN h b).imm 4294967295 = true := by
    cases b
    · exact all16_at imm_false h hh
    · exact all16_at imm_true h hh
  have k' := Nat.le_of_ble_eq_true k
  exact ⟨Int.natCast_nonneg _, by show ((decN h b).imm : Int) ≤ 4294967295; omega⟩
end Go.Proofs.YtblcklknlfofgaaDoor
