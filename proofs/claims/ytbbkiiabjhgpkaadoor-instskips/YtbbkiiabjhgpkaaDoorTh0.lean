/- Stage 8: narrow words in plain numbers: what the program makes of one, what the document makes of it; that they are the same is reckoned out for each word. -/
import Derived.Test.YtbbkiiabjhgpkaaDoorIn2
namespace Go.Proofs.YtbbkiiabjhgpkaaDoor
open Go.RowKit
set_option linter.unusedVariables false
set_option linter.unusedSimpArgs false

structure NV where
  op : Nat
  s : Bool
  cond : Nat
  d : Nat
  n : Nat
  m : Nat
  imm : Nat
  useImm : Bool
  list : Nat
  back : Bool
  down : Bool
def NV.iv (i : NV) : IV := ⟨i.op, false, i.s, i.cond, i.d, i.n, i.m, 0, i.imm, i.useImm, 0, 0, i.list, i.back, i.down⟩
def bEq (x y : Bool) : Bool := bif x then y else !y
def NV.beq (i j : NV) : Bool :=
  Nat.beq i.op j.op && (bEq i.s j.s && (Nat.beq i.cond j.cond && (Nat.beq i.d j.d && (Nat.beq i.n j.n && (Nat.beq i.m j.m && (Nat.beq i.imm j.imm && (bEq i.useImm j.useImm && (Nat.beq i.list j.list && (bEq i.back j.back && bEq i.down j.down)))))))))
theorem bEq_eq {x y : Bool} (h : bEq x y = true) : x = y := by cases x <;> cases y <;> simp_all [bEq]
theorem NV.eq_of_beq {i j : NV} (h : i.beq j = true) : i = j := by
  obtain ⟨i0, i1, i2, i3, i4, i5, i6, i7, i8, i9, i10⟩ := i
  obtain ⟨j0, j1, j2, j3, j4, j5, j6, j7, j8, j9, j10⟩ := j
  simp only [NV.beq, Bool.and_eq_true] at h
  obtain ⟨h0, h1, h2, h3, h4, h5, h6, h7, h8, h9, h10⟩ := h
  rw [Nat.eq_of_beq_eq_true h0, bEq_eq h1, Nat.eq_of_beq_eq_true h2, Nat.eq_of_beq_eq_true h3, Nat.eq_of_beq_eq_true h4, Nat.eq_of_beq_eq_true h5, Nat.eq_of_beq_eq_true h6, bEq_eq h7, Nat.eq_of_beq_eq_true h8, bEq_eq h9, bEq_eq h10]

def all16 (p : Nat → Bool) : Bool := (List.range 256).all fun a => (List.range 256).all fun b => p (a * 256 + b)
theorem all16_at {p : Nat → Bool} (h : all16 p = true) (n : Nat) (hn : n < 65536) : p n = true := by
  simp only [all16, List.all_eq_true, List.mem_range] at h
  have := h (n / 256) (by omega) (n % 256) (by omega)
  rwa [show n / 256 * 256 + n % 256 = n by omega] at this

/-- Bits of a word. -/
def fd (h a s : Nat) : Nat := h / 2 ^ a % 2 ^ s
def nNone (op h : Nat) : NV := ⟨op, false, 14, 0, 0, 0, h, false, 0, false, false⟩
def nReg (op d n m : Nat) (s : Bool) : NV := ⟨op, s, 14, d, n, m, 0, false, 0, false, false⟩
def nImm (op d n v : Nat) (s : Bool) : NV := ⟨op, s, 14, d, n, 0, v, true, 0, false, false⟩
def nNum (op v : Nat) : NV := ⟨op, false, 14, 0, 0, 0, v, false, 0, false, false⟩

/-- The program's. -/
def shiftedN (h : Nat) : NV :=
  bif Nat.beq (h / 2048) 0 then (bif Nat.beq (fd h 6 5) 0 then nReg 13 (fd h 0 3) 0 (fd h 3 3) true else nImm 17 (fd h 0 3) (fd h 3 3) (fd h 6 5) true)
  else nImm (bif Nat.beq (h / 2048) 1 then 18 else 19) (fd h 0 3) (fd h 3 3) (bif Nat.beq (fd h 6 5) 0 then 32 else fd h 6 5) true
def sumN (h : Nat) : NV :=
  bif Nat.beq (fd h 10 1) 0 then nReg (bif Nat.beq (fd h 9 1) 0 then 5 else 3) (fd h 0 3) (fd h 3 3) (fd h 6 3) true
  else nImm (bif Nat.beq (fd h 9 1) 0 then 5 else 3) (fd h 0 3) (fd h 3 3) (fd h 6 3) true
def eightN (h : Nat) : NV :=
  bif Nat.beq (h / 2048) 4 then nImm 13 (fd h 8 3) 0 (fd h 0 8) true
  else bif Nat.beq (h / 2048) 5 then nImm 10 0 (fd h 8 3) (fd h 0 8) true
  else bif Nat.beq (h / 2048) 6 then nImm 5 (fd h 8 3) (fd h 8 3) (fd h 0 8) true
  else nImm 3 (fd h 8 3) (fd h 8 3) (fd h 0 8) true
def lowOp (o : Nat) : Nat := [1, 2, 17, 18, 19, 6, 7, 20, 8, 4, 10, 11, 12, 21, 14, 15].getD o 0
def lowN (h : Nat) : NV :=
  let op := lowOp (fd h 6 4)
  let d := fd h 0 3
  let m := fd h 3 3
  bif Nat.beq op 8 || (Nat.beq op 10 || Nat.beq op 11) then nReg op 0 d m true
  else bif Nat.beq op 4 then nImm op d m 0 true
  else bif Nat.beq op 21 then nReg op d m d true
  else bif Nat.beq op 15 then nReg op d 0 m true
  else nReg op d d m true
def highD (h : Nat) : Nat := fd h 7 1 * 8 + fd h 0 3
def highN (h : Nat) : NV :=
  bif Nat.beq (fd h 3 4) 15 || Nat.beq (highD h) 15 then nNone 65 h
  else bif Nat.beq (h / 256) 68 then nReg 5 (highD h) (highD h) (fd h 3 4) false
  else bif Nat.beq (h / 256) 70 then nReg 13 (highD h) 0 (fd h 3 4) false
  else bif Nat.blt (fd h 3 4) 8 && Nat.blt (highD h) 8 then nNone 65 h
  else nReg 10 0 (highD h) (fd h 3 4) true
def exchangeN (h : Nat) : NV :=
  bif Nat.beq (fd h 3 4) 15 || !Nat.beq (fd h 0 3) 0 then nNone 65 h
  else nReg (bif Nat.beq (fd h 7 1) 0 then 56 else 57) 0 0 (fd h 3 4) false
def registersN (h : Nat) : NV :=
  bif Nat.blt (h / 256) 68 then lowN h else bif Nat.beq (h / 256) 71 then exchangeN h else highN h
def wordsN (h : Nat) : NV :=
  bif Nat.beq (h / 2048) 9 then nImm 44 (fd h 8 3) 15 (fd h 0 8 * 4) false
  else bif Nat.beq (h / 2048) 18 then nImm 49 (fd h 8 3) 13 (fd h 0 8 * 4) false
  else bif Nat.beq (h / 2048) 19 then nImm 44 (fd h 8 3) 13 (fd h 0 8 * 4) false
  else bif Nat.beq (h / 2048) 20 then nImm 43 (fd h 8 3) 0 (fd h 0 8 * 4) false
  else nImm 5 (fd h 8 3) 13 (fd h 0 8 * 4) false
def memOp (o : Nat) : Nat := [49, 51, 50, 47, 44, 46, 45, 48].getD o 0
def byRegN (h : Nat) : NV := nReg (memOp (fd h 9 3)) (fd h 0 3) (fd h 3 3) (fd h 6 3) false
def memoryN (h : Nat) : NV :=
  bif Nat.beq (h / 2048) 12 then nImm 49 (fd h 0 3) (fd h 3 3) (fd h 6 5 * 4) false
  else bif Nat.beq (h / 2048) 13 then nImm 44 (fd h 0 3) (fd h 3 3) (fd h 6 5 * 4) false
  else bif Nat.beq (h / 2048) 14 then nImm 50 (fd h 0 3) (fd h 3 3) (fd h 6 5) false
  else bif Nat.beq (h / 2048) 15 then nImm 45 (fd h 0 3) (fd h 3 3) (fd h 6 5) false
  else bif Nat.beq (h / 2048) 16 then nImm 51 (fd h 0 3) (fd h 3 3) (fd h 6 5 * 2) false
  else nImm 46 (fd h 0 3) (fd h 3 3) (fd h 6 5 * 2) false
def moveN (h : Nat) : NV := bif Nat.beq (fd h 7 1) 0 then nImm 5 13 13 (fd h 0 7 * 4) false else nImm 3 13 13 (fd h 0 7 * 4) false
def comparedN (op h : Nat) : NV := ⟨op, false, 14, 0, fd h 0 3, 0, fd h 9 1 * 64 + fd h 3 5 * 2, false, 0, false, false⟩
def extOp (o : Nat) : Nat := [40, 39, 42, 41].getD o 0
def revOp (o : Nat) : Nat := [36, 37, 0, 38].getD o 0
def unaryN (op h : Nat) : NV := bif Nat.beq op 0 then nNone 64 h else nReg op (fd h 0 3) 0 (fd h 3 3) false
def stackedN (h : Nat) : NV :=
  bif Nat.beq (fd h 0 8) 0 && Nat.beq (fd h 8 1) 0 then nNone 65 h
  else bif Nat.beq (h / 512) 94 then ⟨52, false, 14, 0, 13, 0, 0, false, fd h 0 8 + fd h 8 1 * 32768, true, false⟩
  else ⟨53, false, 14, 0, 13, 0, 0, false, fd h 0 8 + fd h 8 1 * 16384, true, true⟩
def itOk (c m : Nat) : Bool := Nat.ble 1 m && (bif Nat.beq c 14 then Nat.beq m 1 || (Nat.beq m 2 || (Nat.beq m 4 || Nat.beq m 8)) else Nat.ble c 13)
def hintN (h : Nat) : NV :=
  bif Nat.beq (fd h 0 4) 0 then nNum 61 (fd h 4 4)
  else bif itOk (fd h 4 4) (fd h 0 4) then nNum 60 (fd h 4 4 * 16 + fd h 0 4) else nNone 65 h
def mixedN (h : Nat) : NV :=
  let p := h / 256
  bif Nat.beq p 176 then moveN h
  else bif Nat.beq p 177 || Nat.beq p 179 then comparedN 58 h
  else bif Nat.beq p 185 || Nat.beq p 187 then comparedN 59 h
  else bif Nat.beq p 178 then unaryN (extOp (fd h 6 2)) h
  else bif Nat.beq p 186 then unaryN (revOp (fd h 6 2)) h
  else bif Nat.beq (p / 2) 90 || Nat.beq (p / 2) 94 then stackedN h
  else bif Nat.beq p 190 then nNum 63 (fd h 0 8)
  else bif Nat.beq p 191 then hintN h
  else nNone 64 h
def heldN (h : Nat) : Bool := Nat.beq (fd (fd h 0 8) (fd h 8 3) 1) 1
def manyN (h : Nat) : NV :=
  bif Nat.beq (fd h 0 8) 0 then nNone 65 h
  else bif Nat.beq (h / 2048) 25 then ⟨52, false, 14, 0, fd h 8 3, 0, 0, false, fd h 0 8, !heldN h, false⟩
  else bif heldN h then nNone 65 h
  else ⟨53, false, 14, 0, fd h 8 3, 0, 0, false, fd h 0 8, true, false⟩
def farN (h size : Nat) : Nat := bif Nat.blt (fd h 0 size) (2 ^ (size - 1)) then fd h 0 size * 2 else 4294967296 - (2 ^ size - fd h 0 size) * 2
def branchN (c h size : Nat) : NV := ⟨54, false, c, 0, 0, 0, farN h size, false, 0, false, false⟩
def conditionalN (h : Nat) : NV :=
  bif Nat.blt (fd h 8 4) 14 then branchN (fd h 8 4) h 8
  else bif Nat.beq (h / 256) 223 then nNum 62 (fd h 0 8) else nNone 64 h
def aloneN (h : Nat) : NV :=
  let r := h / 2048
  bif Nat.blt r 3 then shiftedN h
  else bif Nat.beq r 3 then sumN h
  else bif Nat.blt r 8 then eightN h
  else bif Nat.beq r 8 then registersN h
  else bif Nat.beq r 9 || (Nat.beq r 18 || (Nat.beq r 19 || (Nat.beq r 20 || Nat.beq r 21))) then wordsN h
  else bif Nat.beq r 10 || Nat.beq r 11 then byRegN h
  else bif Nat.blt r 18 then memoryN h
  else bif Nat.blt r 24 then mixedN h
  else bif Nat.blt r 26 then manyN h
  else bif Nat.blt r 28 then conditionalN h
  else bif Nat.beq r 28 then branchN 14 h 11
  else nNone 64 h
def withinN (i : NV) (h : Nat) : NV :=
  bif Nat.beq i.op 10 || (Nat.beq i.op 11 || Nat.beq i.op 8) then i
  else bif Nat.beq i.op 58 || (Nat.beq i.op 59 || Nat.beq i.op 60) then nNone 65 h
  else bif Nat.beq i.op 54 && !Nat.beq i.cond 14 then nNone 65 h
  else bif Nat.beq i.op 13 && (i.s && !i.useImm) then nNone 65 h
  else { i with s := false }
def decN (h : Nat) (b : Bool) : NV := bif b then withinN (aloneN h) h else aloneN h
def undec (i : NV) : Bool := Nat.beq i.op 64 || Nat.beq i.op 65

/-- ThumbFlags, of one word. -/
def flagsN (h : Nat) : Bool :=
  let a := aloneN h
  let b := withinN a h
  bif Nat.beq a.op 64 || (Nat.beq b.op 65 || Nat.beq a.op 65) then !Nat.beq a.op 64 || Nat.beq b.op 64
  else
    let c := Nat.beq a.op 8 || (Nat.beq a.op 10 || Nat.beq a.op 11)
    bEq c b.s && (NV.beq { a with s := a.s && c } b && (Nat.beq a.cond 14 || Nat.beq a.op 54))
end Go.Proofs.YtbbkiiabjhgpkaaDoor
