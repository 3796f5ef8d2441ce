/- Stage 8: what Encode tells of each word, reckoned out by the kernel. -/
import Derived.Test.YtblcklknlfofgaaDoorThH1
namespace Go.Proofs.YtblcklknlfofgaaDoor
open Go.RowKit
set_option linter.unusedVariables false
set_option maxRecDepth 100000

theorem chk_true_0 : all4k (chkW true) 0 = true := by kernel_rfl
theorem chk_true_1 : all4k (chkW true) 1 = true := by kernel_rfl
theorem chk_true_2 : all4k (chkW true) 2 = true := by kernel_rfl
theorem chk_true_3 : all4k (chkW true) 3 = true := by kernel_rfl
theorem chk_true_4 : all4k (chkW true) 4 = true := by kernel_rfl
theorem chk_true_5 : all4k (chkW true) 5 = true := by kernel_rfl
theorem chk_true_6 : all4k (chkW true) 6 = true := by kernel_rfl
theorem chk_true_7 : all4k (chkW true) 7 = true := by kernel_rfl
theorem chk_true_8 : all4k (chkW true) 8 = true := by kernel_rfl
theorem chk_true_9 : all4k (chkW true) 9 = true := by kernel_rfl
theorem chk_true_10 : all4k (chkW true) 10 = true := by kernel_rfl
theorem chk_true_11 : all4k (chkW true) 11 = true := by kernel_rfl
theorem chk_true_12 : all4k (chkW true) 12 = true := by kernel_rfl
theorem chk_true_13 : all4k (chkW true) 13 = true := by kernel_rfl
theorem chk_true_14 : all4k (chkW true) 14 = true := by kernel_rfl
theorem chk_true_15 : all4k (chkW true) 15 = true := by kernel_rfl
theorem chkW_true (h : Nat) (hh : h < 65536) : chkW true h = true := by
  rcases (show h / 4096 = 0 ∨ h / 4096 = 1 ∨ h / 4096 = 2 ∨ h / 4096 = 3 ∨ h / 4096 = 4 ∨ h / 4096 = 5 ∨ h / 4096 = 6 ∨ h / 4096 = 7 ∨ h / 4096 = 8 ∨ h / 4096 = 9 ∨ h / 4096 = 10 ∨ h / 4096 = 11 ∨ h / 4096 = 12 ∨ h / 4096 = 13 ∨ h / 4096 = 14 ∨ h / 4096 = 15 by omega) with q | q | q | q | q | q | q | q | q | q | q | q | q | q | q | q
  · exact all4k_at chk_true_0 h q
  · exact all4k_at chk_true_1 h q
  · exact all4k_at chk_true_2 h q
  · exact all4k_at chk_true_3 h q
  · exact all4k_at chk_true_4 h q
  · exact all4k_at chk_true_5 h q
  · exact all4k_at chk_true_6 h q
  · exact all4k_at chk_true_7 h q
  · exact all4k_at chk_true_8 h q
  · exact all4k_at chk_true_9 h q
  · exact all4k_at chk_true_10 h q
  · exact all4k_at chk_true_11 h q
  · exact all4k_at chk_true_12 h q
  · exact all4k_at chk_true_13 h q
  · exact all4k_at chk_true_14 h q
  · exact all4k_at chk_true_15 h q
end Go.Proofs.YtblcklknlfofgaaDoor
