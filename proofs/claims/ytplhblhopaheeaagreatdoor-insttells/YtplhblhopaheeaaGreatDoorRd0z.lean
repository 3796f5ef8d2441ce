/- The document's narrow words are the program's, reckoned out for each word. -/
import Derived.Test.YtplhblhopaheeaaGreatDoorYf
namespace Go.Proofs.YtplhblhopaheeaaGreatDoor
set_option maxRecDepth 100000 in
theorem rdec_false_0 : allAt (fun h => NV.beq (rdecN h false) (decN h false)) 0 = true := by kernel_rfl
set_option maxRecDepth 100000 in
theorem rdec_false_1 : allAt (fun h => NV.beq (rdecN h false) (decN h false)) 1 = true := by kernel_rfl
set_option maxRecDepth 100000 in
theorem rdec_false_2 : allAt (fun h => NV.beq (rdecN h false) (decN h false)) 2 = true := by kernel_rfl
set_option maxRecDepth 100000 in
theorem rdec_false_3 : allAt (fun h => NV.beq (rdecN h false) (decN h false)) 3 = true := by kernel_rfl
set_option maxRecDepth 100000 in
theorem rdec_false_4 : allAt (fun h => NV.beq (rdecN h false) (decN h false)) 4 = true := by kernel_rfl
set_option maxRecDepth 100000 in
theorem rdec_false_5 : allAt (fun h => NV.beq (rdecN h false) (decN h false)) 5 = true := by kernel_rfl
set_option maxRecDepth 100000 in
theorem rdec_false_6 : allAt (fun h => NV.beq (rdecN h false) (decN h false)) 6 = true := by kernel_rfl
set_option maxRecDepth 100000 in
theorem rdec_false_7 : allAt (fun h => NV.beq (rdecN h false) (decN h false)) 7 = true := by kernel_rfl
set_option maxRecDepth 100000 in
theorem rdec_false_8 : allAt (fun h => NV.beq (rdecN h false) (decN h false)) 8 = true := by kernel_rfl
set_option maxRecDepth 100000 in
theorem rdec_false_9 : allAt (fun h => NV.beq (rdecN h false) (decN h false)) 9 = true := by kernel_rfl
set_option maxRecDepth 100000 in
theorem rdec_false_10 : allAt (fun h => NV.beq (rdecN h false) (decN h false)) 10 = true := by kernel_rfl
set_option maxRecDepth 100000 in
theorem rdec_false_11 : allAt (fun h => NV.beq (rdecN h false) (decN h false)) 11 = true := by kernel_rfl
set_option maxRecDepth 100000 in
theorem rdec_false_12 : allAt (fun h => NV.beq (rdecN h false) (decN h false)) 12 = true := by kernel_rfl
set_option maxRecDepth 100000 in
theorem rdec_false_13 : allAt (fun h => NV.beq (rdecN h false) (decN h false)) 13 = true := by kernel_rfl
set_option maxRecDepth 100000 in
theorem rdec_false_14 : allAt (fun h => NV.beq (rdecN h false) (decN h false)) 14 = true := by kernel_rfl
set_option maxRecDepth 100000 in
theorem rdec_false_15 : allAt (fun h => NV.beq (rdecN h false) (decN h false)) 15 = true := by kernel_rfl
theorem rdec_false (h : Nat) (hh : h < 65536) : rdecN h false = decN h false := by
  refine NV.eq_of_beq (allAt_at (p := fun h => NV.beq (rdecN h false) (decN h false)) (fun a ha => ?_) h hh)
  rcases (show a = 0 ∨ a = 1 ∨ a = 2 ∨ a = 3 ∨ a = 4 ∨ a = 5 ∨ a = 6 ∨ a = 7 ∨ a = 8 ∨ a = 9 ∨ a = 10 ∨ a = 11 ∨ a = 12 ∨ a = 13 ∨ a = 14 ∨ a = 15 by omega) with rfl | rfl | rfl | rfl | rfl | rfl | rfl | rfl | rfl | rfl | rfl | rfl | rfl | rfl | rfl | rfl
  · exact rdec_false_0
  · exact rdec_false_1
  · exact rdec_false_2
  · exact rdec_false_3
  · exact rdec_false_4
  · exact rdec_false_5
  · exact rdec_false_6
  · exact rdec_false_7
  · exact rdec_false_8
  · exact rdec_false_9
  · exact rdec_false_10
  · exact rdec_false_11
  · exact rdec_false_12
  · exact rdec_false_13
  · exact rdec_false_14
  · exact rdec_false_15
end Go.Proofs.YtplhblhopaheeaaGreatDoor
namespace Go.Proofs.YtplhblhopaheeaaGreatDoor
set_option maxRecDepth 100000 in
theorem rdec_true_0 : allAt (fun h => NV.beq (rdecN h true) (decN h true)) 0 = true := by kernel_rfl
set_option maxRecDepth 100000 in
theorem rdec_true_1 : allAt (fun h => NV.beq (rdecN h true) (decN h true)) 1 = true := by kernel_rfl
set_option maxRecDepth 100000 in
theorem rdec_true_2 : allAt (fun h => NV.beq (rdecN h true) (decN h true)) 2 = true := by kernel_rfl
set_option maxRecDepth 100000 in
theorem rdec_true_3 : allAt (fun h => NV.beq (rdecN h true) (decN h true)) 3 = true := by kernel_rfl
set_option maxRecDepth 100000 in
theorem rdec_true_4 : allAt (fun h => NV.beq (rdecN h true) (decN h true)) 4 = true := by kernel_rfl
set_option maxRecDepth 100000 in
theorem rdec_true_5 : allAt (fun h => NV.beq (rdecN h true) (decN h true)) 5 = true := by kernel_rfl
set_option maxRecDepth 100000 in
theorem rdec_true_6 : allAt (fun h => NV.beq (rdecN h true) (decN h true)) 6 = true := by kernel_rfl
set_option maxRecDepth 100000 in
theorem rdec_true_7 : allAt (fun h => NV.beq (rdecN h true) (decN h true)) 7 = true := by kernel_rfl
set_option maxRecDepth 100000 in
theorem rdec_true_8 : allAt (fun h => NV.beq (rdecN h true) (decN h true)) 8 = true := by kernel_rfl
set_option maxRecDepth 100000 in
theorem rdec_true_9 : allAt (fun h => NV.beq (rdecN h true) (decN h true)) 9 = true := by kernel_rfl
set_option maxRecDepth 100000 in
theorem rdec_true_10 : allAt (fun h => NV.beq (rdecN h true) (decN h true)) 10 = true := by kernel_rfl
set_option maxRecDepth 100000 in
theorem rdec_true_11 : allAt (fun h => NV.beq (rdecN h true) (decN h true)) 11 = true := by kernel_rfl
set_option maxRecDepth 100000 in
theorem rdec_true_12 : allAt (fun h => NV.beq (rdecN h true) (decN h true)) 12 = true := by kernel_rfl
set_option maxRecDepth 100000 in
theorem rdec_true_13 : allAt (fun h => NV.beq (rdecN h true) (decN h true)) 13 = true := by kernel_rfl
set_option maxRecDepth 100000 in
theorem rdec_true_14 : allAt (fun h => NV.beq (rdecN h true) (decN h true)) 14 = true := by kernel_rfl
set_option maxRecDepth 100000 in
theorem rdec_true_15 : allAt (fun h => NV.beq (rdecN h true) (decN h true)) 15 = true := by kernel_rfl
theorem rdec_true (h : Nat) (hh : h < 65536) : rdecN h true = decN h true := by
  refine NV.eq_of_beq (allAt_at (p := fun h => NV.beq (rdecN h true) (decN h true)) (fun a ha => ?_) h hh)
  rcases (show a = 0 ∨ a = 1 ∨ a = 2 ∨ a = 3 ∨ a = 4 ∨ a = 5 ∨ a = 6 ∨ a = 7 ∨ a = 8 ∨ a = 9 ∨ a = 10 ∨ a = 11 ∨ a = 12 ∨ a = 13 ∨ a = 14 ∨ a = 15 by omega) with rfl | rfl | rfl | rfl | rfl | rfl | rfl | rfl | rfl | rfl | rfl | rfl | rfl | rfl | rfl | rfl
  · exact rdec_true_0
  · exact rdec_true_1
  · exact rdec_true_2
  · exact rdec_true_3
  · exact rdec_true_4
  · exact rdec_true_5
  · exact rdec_true_6
  · exact rdec_true_7
  · exact rdec_true_8
  · exact rdec_true_9
  · exact rdec_true_10
  · exact rdec_true_11
  · exact rdec_true_12
  · exact rdec_true_13
  · exact rdec_true_14
  · exact rdec_true_15
end Go.Proofs.YtplhblhopaheeaaGreatDoor
