/- Stage 8: the document's narrow words in plain numbers; they are the program's, reckoned out for each word. -/
import Derived.Test.YtbbkiiabjhgpkaaDoorTh0
namespace Go.Proofs.YtbbkiiabjhgpkaaDoor
open Go.RowKit
set_option linter.unusedVariables false

def pick2 (a b k : Nat) : Nat := bif Nat.beq k 0 then a else b
def rRegister (h : Nat) (b : Bool) : NV :=
  bif Nat.beq (fd h 10 1) 0 then
    (let o := lowOp (fd h 6 4)
     bif Nat.beq o 8 || (Nat.beq o 10 || Nat.beq o 11) then nReg o 0 (fd h 0 3) (fd h 3 3) true
     else bif Nat.beq o 4 then nImm o (fd h 0 3) (fd h 3 3) 0 (!b)
     else bif Nat.beq o 21 then nReg o (fd h 0 3) (fd h 3 3) (fd h 0 3) (!b)
     else bif Nat.beq o 15 then nReg o (fd h 0 3) 0 (fd h 3 3) (!b)
     else nReg o (fd h 0 3) (fd h 0 3) (fd h 3 3) (!b))
  else bif Nat.beq (fd h 8 2) 0 then (bif Nat.beq (highD h) 15 || Nat.beq (fd h 3 4) 15 then nNone 65 h else nReg 5 (highD h) (highD h) (fd h 3 4) false)
  else bif Nat.beq (fd h 8 2) 1 then (bif Nat.beq (highD h) 15 || (Nat.beq (fd h 3 4) 15 || (Nat.blt (highD h) 8 && Nat.blt (fd h 3 4) 8)) then nNone 65 h else nReg 10 0 (highD h) (fd h 3 4) true)
  else bif Nat.beq (fd h 8 2) 2 then (bif Nat.beq (highD h) 15 || Nat.beq (fd h 3 4) 15 then nNone 65 h else nReg 13 (highD h) 0 (fd h 3 4) false)
  else bif !Nat.beq (fd h 0 3) 0 || Nat.beq (fd h 3 4) 15 then nNone 65 h else nReg (pick2 56 57 (fd h 7 1)) 0 0 (fd h 3 4) false
def rMisc (h : Nat) (b : Bool) : NV :=
  let k := fd h 8 4
  bif Nat.beq k 0 then nImm (pick2 5 3 (fd h 7 1)) 13 13 (4 * fd h 0 7) false
  else bif Nat.beq k 1 || (Nat.beq k 3 || (Nat.beq k 9 || Nat.beq k 11)) then (bif b then nNone 65 h else ⟨pick2 58 59 (fd h 11 1), false, 14, 0, fd h 0 3, 0, (fd h 3 5 + fd h 9 1 * 32) * 2, false, 0, false, false⟩)
  else bif Nat.beq k 2 then nReg (extOp (fd h 6 2)) (fd h 0 3) 0 (fd h 3 3) false
  else bif Nat.beq k 4 || (Nat.beq k 5 || (Nat.beq k 12 || Nat.beq k 13)) then
    (let l := fd h 0 8 + fd h 8 1 * pick2 16384 32768 (fd h 11 1)
     bif Nat.beq l 0 then nNone 65 h else ⟨pick2 53 52 (fd h 11 1), false, 14, 0, 13, 0, 0, false, l, true, Nat.beq (fd h 11 1) 0⟩)
  else bif Nat.beq k 10 then (bif Nat.beq (fd h 6 2) 2 then nNone 64 h else nReg (revOp (fd h 6 2)) (fd h 0 3) 0 (fd h 3 3) false)
  else bif Nat.beq k 14 then nNum 63 (fd h 0 8)
  else bif Nat.beq k 15 then (bif Nat.beq (fd h 0 4) 0 then nNum 61 (fd h 4 4) else bif !itOk (fd h 4 4) (fd h 0 4) || b then nNone 65 h else nNum 60 (fd h 0 8))
  else nNone 64 h
def rJump (h : Nat) (b : Bool) : NV :=
  bif Nat.beq (fd h 8 4) 14 then nNone 64 h
  else bif Nat.beq (fd h 8 4) 15 then nNum 62 (fd h 0 8)
  else bif b then nNone 65 h
  else branchN (fd h 8 4) h 8
def rdecN (h : Nat) (b : Bool) : NV :=
  let r := h / 2048
  let d := fd h 0 3
  let n := fd h 3 3
  let five := fd h 6 5
  let eight := fd h 0 8
  let high := fd h 8 3
  bif Nat.blt 28 r then nNone 64 h
  else bif Nat.beq r 0 then (bif Nat.beq five 0 then (bif b then nNone 65 h else nReg 13 d 0 n true) else nImm 17 d n five (!b))
  else bif Nat.beq r 1 || Nat.beq r 2 then nImm (pick2 18 19 (r - 1)) d n (bif Nat.beq five 0 then 32 else five) (!b)
  else bif Nat.beq r 3 then (bif Nat.beq (fd h 10 1) 1 then nImm (pick2 5 3 (fd h 9 1)) d n (fd h 6 3) (!b) else nReg (pick2 5 3 (fd h 9 1)) d n (fd h 6 3) (!b))
  else bif Nat.beq r 4 then nImm 13 high 0 eight (!b)
  else bif Nat.beq r 5 then nImm 10 0 high eight true
  else bif Nat.beq r 6 || Nat.beq r 7 then nImm (pick2 5 3 (r - 6)) high high eight (!b)
  else bif Nat.beq r 8 then rRegister h b
  else bif Nat.beq r 9 then nImm 44 high 15 (4 * eight) false
  else bif Nat.beq r 10 || Nat.beq r 11 then nReg (memOp (fd h 9 3)) d n (fd h 6 3) false
  else bif Nat.beq r 12 || Nat.beq r 13 then nImm (pick2 49 44 (r - 12)) d n (4 * five) false
  else bif Nat.beq r 14 || Nat.beq r 15 then nImm (pick2 50 45 (r - 14)) d n five false
  else bif Nat.beq r 16 || Nat.beq r 17 then nImm (pick2 51 46 (r - 16)) d n (2 * five) false
  else bif Nat.beq r 18 || Nat.beq r 19 then nImm (pick2 49 44 (r - 18)) high 13 (4 * eight) false
  else bif Nat.beq r 20 then nImm 43 high 0 (4 * eight) false
  else bif Nat.beq r 21 then nImm 5 high 13 (4 * eight) false
  else bif Nat.beq r 22 || Nat.beq r 23 then rMisc h b
  else bif Nat.beq r 24 || Nat.beq r 25 then
    (bif Nat.beq eight 0 || (heldN h && Nat.beq r 24) then nNone 65 h else ⟨pick2 53 52 (r - 24), false, 14, 0, high, 0, 0, false, eight, !heldN h, false⟩)
  else bif Nat.beq r 26 || Nat.beq r 27 then rJump h b
  else branchN 14 h 11
def allAt (p : Nat → Bool) (a : Nat) : Bool := (List.range 16).all fun i => (List.range 256).all fun b => p ((a * 16 + i) * 256 + b)
theorem allAt_at {p : Nat → Bool} (h : ∀ a, a < 16 → allAt p a = true) (n : Nat) (hn : n < 65536) : p n = true := by
  have h1 := h (n / 4096) (by omega)
  simp only [allAt, List.all_eq_true, List.mem_range] at h1
  have := h1 (n / 256 % 16) (by omega) (n % 256) (by omega)
  rwa [show (n / 4096 * 16 + n / 256 % 16) * 256 + n % 256 = n by omega] at this
end Go.Proofs.YtbbkiiabjhgpkaaDoor
