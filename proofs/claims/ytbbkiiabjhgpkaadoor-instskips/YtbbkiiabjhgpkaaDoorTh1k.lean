/- Stage 8: masks of a word, reckoned out. -/
import Derived.Test.YtbbkiiabjhgpkaaDoorTh0
import Derived.Laws.BitsAllLaws
namespace Go.Proofs.YtbbkiiabjhgpkaaDoor
open Go.RowKit
set_option maxRecDepth 100000 in
theorem row_all : all16 (fun h => Nat.beq (Nat.land h 63488) (h / 2048 * 2048)) = true := by kernel_rfl
set_option maxRecDepth 100000 in
theorem page_all : all16 (fun h => Nat.beq (Nat.land h 65280) (h / 256 * 256)) = true := by kernel_rfl
set_option maxRecDepth 100000 in
theorem pair_all : all16 (fun h => Nat.beq (Nat.land (Nat.land h 65279) 65280) (h / 512 * 512)) = true := by kernel_rfl
theorem row_bits (h : Nat) (hh : h < 65536) : bits .and .u16 (h : Int) 63488 = ((h / 2048 * 2048 : Nat) : Int) := by
  rw [show (63488 : Int) = ((63488 : Nat) : Int) from rfl, u16_and_nat _ _ hh (by decide)]
  exact congrArg _ (Nat.eq_of_beq_eq_true (all16_at row_all h hh))
theorem page_bits (h : Nat) (hh : h < 65536) : bits .and .u16 (h : Int) 65280 = ((h / 256 * 256 : Nat) : Int) := by
  rw [show (65280 : Int) = ((65280 : Nat) : Int) from rfl, u16_and_nat _ _ hh (by decide)]
  exact congrArg _ (Nat.eq_of_beq_eq_true (all16_at page_all h hh))
set_option maxRecDepth 100000 in
theorem bit7_all : all16 (fun h => Nat.beq (Nat.land h 128) (fd h 7 1 * 128)) = true := by kernel_rfl
theorem bit7_bits (h : Nat) (hh : h < 65536) : bits .and .u16 (h : Int) 128 = ((fd h 7 1 * 128 : Nat) : Int) := by
  rw [show (128 : Int) = ((128 : Nat) : Int) from rfl, u16_and_nat _ _ hh (by decide)]
  exact congrArg _ (Nat.eq_of_beq_eq_true (all16_at bit7_all h hh))
set_option maxRecDepth 100000 in
theorem bit8_all : all16 (fun h => Nat.beq (Nat.land h 256) (fd h 8 1 * 256)) = true := by kernel_rfl
theorem bit8_bits (h : Nat) (hh : h < 65536) : bits .and .u16 (h : Int) 256 = ((fd h 8 1 * 256 : Nat) : Int) := by
  rw [show (256 : Int) = ((256 : Nat) : Int) from rfl, u16_and_nat _ _ hh (by decide)]
  exact congrArg _ (Nat.eq_of_beq_eq_true (all16_at bit8_all h hh))
set_option maxRecDepth 100000 in
theorem bit9_all : all16 (fun h => Nat.beq (Nat.land h 512) (fd h 9 1 * 512)) = true := by kernel_rfl
theorem bit9_bits (h : Nat) (hh : h < 65536) : bits .and .u16 (h : Int) 512 = ((fd h 9 1 * 512 : Nat) : Int) := by
  rw [show (512 : Int) = ((512 : Nat) : Int) from rfl, u16_and_nat _ _ hh (by decide)]
  exact congrArg _ (Nat.eq_of_beq_eq_true (all16_at bit9_all h hh))
set_option maxRecDepth 100000 in
theorem bit10_all : all16 (fun h => Nat.beq (Nat.land h 1024) (fd h 10 1 * 1024)) = true := by kernel_rfl
theorem bit10_bits (h : Nat) (hh : h < 65536) : bits .and .u16 (h : Int) 1024 = ((fd h 10 1 * 1024 : Nat) : Int) := by
  rw [show (1024 : Int) = ((1024 : Nat) : Int) from rfl, u16_and_nat _ _ hh (by decide)]
  exact congrArg _ (Nat.eq_of_beq_eq_true (all16_at bit10_all h hh))
theorem pair_bits (h : Nat) (hh : h < 65536) : bits .and .u16 (bits .andNot .u16 (h : Int) 256) 65280 = ((h / 512 * 512 : Nat) : Int) := by
  rw [show (256 : Int) = ((256 : Nat) : Int) from rfl, u16_andNot_nat _ _ hh (by decide), show (65280 : Int) = ((65280 : Nat) : Int) from rfl, u16_and_nat _ _ (Nat.lt_of_le_of_lt Nat.and_le_left hh) (by decide)]
  exact congrArg _ (Nat.eq_of_beq_eq_true (all16_at pair_all h hh))
end Go.Proofs.YtbbkiiabjhgpkaaDoor
