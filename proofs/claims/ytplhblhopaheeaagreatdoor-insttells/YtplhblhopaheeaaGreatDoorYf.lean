/- Stage 8: narrow words in plain numbers: what the program makes of one, what the document makes of it; that they are the same is reckoned out for each word. -/
import Derived.Test.YtplhblhopaheeaaGreatDoorYa
import Derived.Laws.BitsAllLaws
namespace Go.Proofs.YtplhblhopaheeaaGreatDoor
open Go.RowKit
set_option linter.unusedVariables false
set_option linter.unusedSimpArgs false

structure NV where
  op : Nat
  s : Bool
  cond : Nat
  d : Nat
  n : Nat
  m : Nat
  imm : Nat
  useImm : Bool
  list : Nat
  back : Bool
  down : Bool
def NV.iv (i : NV) : IV := ⟨i.op, false, i.s, i.cond, i.d, i.n, i.m, 0, i.imm, i.useImm, 0, 0, i.list, i.back, i.down⟩
def bEq (x y : Bool) : Bool := bif x then y else !y
def NV.beq (i j : NV) : Bool :=
  Nat.beq i.op j.op && (bEq i.s j.s && (Nat.beq i.cond j.cond && (Nat.beq i.d j.d && (Nat.beq i.n j.n && (Nat.beq i.m j.m && (Nat.beq i.imm j.imm && (bEq i.useImm j.useImm && (Nat.beq i.list j.list && (bEq i.back j.back && bEq i.down j.down)))))))))
theorem bEq_eq {x y : Bool} (h : bEq x y = true) : x = y := by cases x <;> cases y <;> simp_all [bEq]
theorem NV.eq_of_beq {i j : NV} (h : i.beq j = true) : i = j := by
  obtain ⟨i0, i1, i2, i3, i4, i5, i6, i7, i8, i9, i10⟩ := i
  obtain ⟨j0, j1, j2, j3, j4, j5, j6, j7, j8, j9, j10⟩ := j
  simp only [NV.beq, Bool.and_eq_true] at h
  obtain ⟨h0, h1, h2, h3, h4, h5, h6, h7, h8, h9, h10⟩ := h
  rw [Nat.eq_of_beq_eq_true h0, bEq_eq h1, Nat.eq_of_beq_eq_true h2, Nat.eq_of_beq_eq_true h3, Nat.eq_of_beq_eq_true h4, Nat.eq_of_beq_eq_true h5, Nat.eq_of_beq_eq_true h6, bEq_eq h7, Nat.eq_of_beq_eq_true h8, bEq_eq h9, bEq_eq h10]

def all16 (p : Nat → Bool) : Bool := (List.range 256).all fun a => (List.range 256).all fun b => p (a * 256 + b)
theorem all16_at {p : Nat → Bool} (h : all16 p = true) (n : Nat) (hn : n < 65536) : p n = true := by
  simp only [all16, List.all_eq_true, List.mem_range] at h
  have := h (n / 256) (by omega) (n % 256) (by omega)
  rwa [show n / 256 * 256 + n % 256 = n by omega] at this

/-- Bits of a word. -/
def fd (h a s : Nat) : Nat := h / 2 ^ a % 2 ^ s
def nNone (op h : Nat) : NV := ⟨op, false, 14, 0, 0, 0, h, false, 0, false, false⟩
def nReg (op d n m : Nat) (s : Bool) : NV := ⟨op, s, 14, d, n, m, 0, false, 0, false, false⟩
def nImm (op d n v : Nat) (s : Bool) : NV := ⟨op, s, 14, d, n, 0, v, true, 0, false, false⟩
def nNum (op v : Nat) : NV := ⟨op, false, 14, 0, 0, 0, v, false, 0, false, false⟩

/-- The program's. -/
def shiftedN (h : Nat) : NV :=
  bif Nat.beq (h / 2048) 0 then (bif Nat.beq (fd h 6 5) 0 then nReg 13 (fd h 0 3) 0 (fd h 3 3) true else nImm 17 (fd h 0 3) (fd h 3 3) (fd h 6 5) true)
  else nImm (bif Nat.beq (h / 2048) 1 then 18 else 19) (fd h 0 3) (fd h 3 3) (bif Nat.beq (fd h 6 5) 0 then 32 else fd h 6 5) true
def sumN (h : Nat) : NV :=
  bif Nat.beq (fd h 10 1) 0 then nReg (bif Nat.beq (fd h 9 1) 0 then 5 else 3) (fd h 0 3) (fd h 3 3) (fd h 6 3) true
  else nImm (bif Nat.beq (fd h 9 1) 0 then 5 else 3) (fd h 0 3) (fd h 3 3) (fd h 6 3) true
def eightN (h : Nat) : NV :=
  bif Nat.beq (h / 2048) 4 then nImm 13 (fd h 8 3) 0 (fd h 0 8) true
  else bif Nat.beq (h / 2048) 5 then nImm 10 0 (fd h 8 3) (fd h 0 8) true
  else bif Nat.beq (h / 2048) 6 then nImm 5 (fd h 8 3) (fd h 8 3) (fd h 0 8) true
  else nImm 3 (fd h 8 3) (fd h 8 3) (fd h 0 8) true
def lowOp (o : Nat) : Nat := [1, 2, 17, 18, 19, 6, 7, 20, 8, 4, 10, 11, 12, 21, 14, 15].getD o 0
def lowN (h : Nat) : NV :=
  let op := lowOp (fd h 6 4)
  let d := fd h 0 3
  let m := fd h 3 3
  bif Nat.beq op 8 || (Nat.beq op 10 || Nat.beq op 11) then nReg op 0 d m true
  else bif Nat.beq op 4 then nImm op d m 0 true
  else bif Nat.beq op 21 then nReg op d m d true
  else bif Nat.beq op 15 then nReg op d 0 m true
  else nReg op d d m true
def highD (h : Nat) : Nat := fd h 7 1 * 8 + fd h 0 3
def highN (h : Nat) : NV :=
  bif Nat.beq (fd h 3 4) 15 || Nat.beq (highD h) 15 then nNone 65 h
  else bif Nat.beq (h / 256) 68 then nReg 5 (highD h) (highD h) (fd h 3 4) false
  else bif Nat.beq (h / 256) 70 then nReg 13 (highD h) 0 (fd h 3 4) false
  else bif Nat.blt (fd h 3 4) 8 && Nat.blt (highD h) 8 then nNone 65 h
  else nReg 10 0 (highD h) (fd h 3 4) true
def exchangeN (h : Nat) : NV :=
  bif Nat.beq (fd h 3 4) 15 || !Nat.beq (fd h 0 3) 0 then nNone 65 h
  else nReg (bif Nat.beq (fd h 7 1) 0 then 56 else 57) 0 0 (fd h 3 4) false
def registersN (h : Nat) : NV :=
  bif Nat.blt (h / 256) 68 then lowN h else bif Nat.beq (h / 256) 71 then exchangeN h else highN h
def wordsN (h : Nat) : NV :=
  bif Nat.beq (h / 2048) 9 then nImm 44 (fd h 8 3) 15 (fd h 0 8 * 4) false
  else bif Nat.beq (h / 2048) 18 then nImm 49 (fd h 8 3) 13 (fd h 0 8 * 4) false
  else bif Nat.beq (h / 2048) 19 then nImm 44 (fd h 8 3) 13 (fd h 0 8 * 4) false
  else bif Nat.beq (h / 2048) 20 then nImm 43 (fd h 8 3) 0 (fd h 0 8 * 4) false
  else nImm 5 (fd h 8 3) 13 (fd h 0 8 * 4) false
def memOp (o : Nat) : Nat := [49, 51, 50, 47, 44, 46, 45, 48].getD o 0
def byRegN (h : Nat) : NV := nReg (memOp (fd h 9 3)) (fd h 0 3) (fd h 3 3) (fd h 6 3) false
def memoryN (h : Nat) : NV :=
  bif Nat.beq (h / 2048) 12 then nImm 49 (fd h 0 3) (fd h 3 3) (fd h 6 5 * 4) false
  else bif Nat.beq (h / 2048) 13 then nImm 44 (fd h 0 3) (fd h 3 3) (fd h 6 5 * 4) false
  else bif Nat.beq (h / 2048) 14 then nImm 50 (fd h 0 3) (fd h 3 3) (fd h 6 5) false
  else bif Nat.beq (h / 2048) 15 then nImm 45 (fd h 0 3) (fd h 3 3) (fd h 6 5) false
  else bif Nat.beq (h / 2048) 16 then nImm 51 (fd h 0 3) (fd h 3 3) (fd h 6 5 * 2) false
  else nImm 46 (fd h 0 3) (fd h 3 3) (fd h 6 5 * 2) false
def moveN (h : Nat) : NV := bif Nat.beq (fd h 7 1) 0 then nImm 5 13 13 (fd h 0 7 * 4) false else nImm 3 13 13 (fd h 0 7 * 4) false
def comparedN (op h : Nat) : NV := ⟨op, false, 14, 0, fd h 0 3, 0, fd h 9 1 * 64 + fd h 3 5 * 2, false, 0, false, false⟩
def extOp (o : Nat) : Nat := [40, 39, 42, 41].getD o 0
def revOp (o : Nat) : Nat := [36, 37, 0, 38].getD o 0
def unaryN (op h : Nat) : NV := bif Nat.beq op 0 then nNone 64 h else nReg op (fd h 0 3) 0 (fd h 3 3) false
def stackedN (h : Nat) : NV :=
  bif Nat.beq (fd h 0 8) 0 && Nat.beq (fd h 8 1) 0 then nNone 65 h
  else bif Nat.beq (h / 512) 94 then ⟨52, false, 14, 0, 13, 0, 0, false, fd h 0 8 + fd h 8 1 * 32768, true, false⟩
  else ⟨53, false, 14, 0, 13, 0, 0, false, fd h 0 8 + fd h 8 1 * 16384, true, true⟩
def itOk (c m : Nat) : Bool := Nat.ble 1 m && (bif Nat.beq c 14 then Nat.beq m 1 || (Nat.beq m 2 || (Nat.beq m 4 || Nat.beq m 8)) else Nat.ble c 13)
def hintN (h : Nat) : NV :=
  bif Nat.beq (fd h 0 4) 0 then nNum 61 (fd h 4 4)
  else bif itOk (fd h 4 4) (fd h 0 4) then nNum 60 (fd h 4 4 * 16 + fd h 0 4) else nNone 65 h
def mixedN (h : Nat) : NV :=
  let p := h / 256
  bif Nat.beq p 176 then moveN h
  else bif Nat.beq p 177 || Nat.beq p 179 then comparedN 58 h
  else bif Nat.beq p 185 || Nat.beq p 187 then comparedN 59 h
  else bif Nat.beq p 178 then unaryN (extOp (fd h 6 2)) h
  else bif Nat.beq p 186 then unaryN (revOp (fd h 6 2)) h
  else bif Nat.beq (p / 2) 90 || Nat.beq (p / 2) 94 then stackedN h
  else bif Nat.beq p 190 then nNum 63 (fd h 0 8)
  else bif Nat.beq p 191 then hintN h
  else nNone 64 h
def heldN (h : Nat) : Bool := Nat.beq (fd (fd h 0 8) (fd h 8 3) 1) 1
def manyN (h : Nat) : NV :=
  bif Nat.beq (fd h 0 8) 0 then nNone 65 h
  else bif Nat.beq (h / 2048) 25 then ⟨52, false, 14, 0, fd h 8 3, 0, 0, false, fd h 0 8, !heldN h, false⟩
  else bif heldN h then nNone 65 h
  else ⟨53, false, 14, 0, fd h 8 3, 0, 0, false, fd h 0 8, true, false⟩
def farN (h size : Nat) : Nat := bif Nat.blt (fd h 0 size) (2 ^ (size - 1)) then fd h 0 size * 2 else 4294967296 - (2 ^ size - fd h 0 size) * 2
def branchN (c h size : Nat) : NV := ⟨54, false, c, 0, 0, 0, farN h size, false, 0, false, false⟩
def conditionalN (h : Nat) : NV :=
  bif Nat.blt (fd h 8 4) 14 then branchN (fd h 8 4) h 8
  else bif Nat.beq (h / 256) 223 then nNum 62 (fd h 0 8) else nNone 64 h
def aloneN (h : Nat) : NV :=
  let r := h / 2048
  bif Nat.blt r 3 then shiftedN h
  else bif Nat.beq r 3 then sumN h
  else bif Nat.blt r 8 then eightN h
  else bif Nat.beq r 8 then registersN h
  else bif Nat.beq r 9 || (Nat.beq r 18 || (Nat.beq r 19 || (Nat.beq r 20 || Nat.beq r 21))) then wordsN h
  else bif Nat.beq r 10 || Nat.beq r 11 then byRegN h
  else bif Nat.blt r 18 then memoryN h
  else bif Nat.blt r 24 then mixedN h
  else bif Nat.blt r 26 then manyN h
  else bif Nat.blt r 28 then conditionalN h
  else bif Nat.beq r 28 then branchN 14 h 11
  else nNone 64 h
def withinN (i : NV) (h : Nat) : NV :=
  bif Nat.beq i.op 10 || (Nat.beq i.op 11 || Nat.beq i.op 8) then i
  else bif Nat.beq i.op 58 || (Nat.beq i.op 59 || Nat.beq i.op 60) then nNone 65 h
  else bif Nat.beq i.op 54 && !Nat.beq i.cond 14 then nNone 65 h
  else bif Nat.beq i.op 13 && (i.s && !i.useImm) then nNone 65 h
  else { i with s := false }
def decN (h : Nat) (b : Bool) : NV := bif b then withinN (aloneN h) h else aloneN h
def undec (i : NV) : Bool := Nat.beq i.op 64 || Nat.beq i.op 65

/-- ThumbFlags, of one word. -/
def flagsN (h : Nat) : Bool :=
  let a := aloneN h
  let b := withinN a h
  bif Nat.beq a.op 64 || (Nat.beq b.op 65 || Nat.beq a.op 65) then !Nat.beq a.op 64 || Nat.beq b.op 64
  else
    let c := Nat.beq a.op 8 || (Nat.beq a.op 10 || Nat.beq a.op 11)
    bEq c b.s && (NV.beq { a with s := a.s && c } b && (Nat.beq a.cond 14 || Nat.beq a.op 54))
end Go.Proofs.YtplhblhopaheeaaGreatDoor
namespace Go.Proofs.YtplhblhopaheeaaGreatDoor
open Go.RowKit
set_option linter.unusedVariables false

def pick2 (a b k : Nat) : Nat := bif Nat.beq k 0 then a else b
def rRegister (h : Nat) (b : Bool) : NV :=
  bif Nat.beq (fd h 10 1) 0 then
    (let o := lowOp (fd h 6 4)
     bif Nat.beq o 8 || (Nat.beq o 10 || Nat.beq o 11) then nReg o 0 (fd h 0 3) (fd h 3 3) true
     else bif Nat.beq o 4 then nImm o (fd h 0 3) (fd h 3 3) 0 (!b)
     else bif Nat.beq o 21 then nReg o (fd h 0 3) (fd h 3 3) (fd h 0 3) (!b)
     else bif Nat.beq o 15 then nReg o (fd h 0 3) 0 (fd h 3 3) (!b)
     else nReg o (fd h 0 3) (fd h 0 3) (fd h 3 3) (!b))
  else bif Nat.beq (fd h 8 2) 0 then (bif Nat.beq (highD h) 15 || Nat.beq (fd h 3 4) 15 then nNone 65 h else nReg 5 (highD h) (highD h) (fd h 3 4) false)
  else bif Nat.beq (fd h 8 2) 1 then (bif Nat.beq (highD h) 15 || (Nat.beq (fd h 3 4) 15 || (Nat.blt (highD h) 8 && Nat.blt (fd h 3 4) 8)) then nNone 65 h else nReg 10 0 (highD h) (fd h 3 4) true)
  else bif Nat.beq (fd h 8 2) 2 then (bif Nat.beq (highD h) 15 || Nat.beq (fd h 3 4) 15 then nNone 65 h else nReg 13 (highD h) 0 (fd h 3 4) false)
  else bif !Nat.beq (fd h 0 3) 0 || Nat.beq (fd h 3 4) 15 then nNone 65 h else nReg (pick2 56 57 (fd h 7 1)) 0 0 (fd h 3 4) false
def rMisc (h : Nat) (b : Bool) : NV :=
  let k := fd h 8 4
  bif Nat.beq k 0 then nImm (pick2 5 3 (fd h 7 1)) 13 13 (4 * fd h 0 7) false
  else bif Nat.beq k 1 || (Nat.beq k 3 || (Nat.beq k 9 || Nat.beq k 11)) then (bif b then nNone 65 h else ⟨pick2 58 59 (fd h 11 1), false, 14, 0, fd h 0 3, 0, (fd h 3 5 + fd h 9 1 * 32) * 2, false, 0, false, false⟩)
  else bif Nat.beq k 2 then nReg (extOp (fd h 6 2)) (fd h 0 3) 0 (fd h 3 3) false
  else bif Nat.beq k 4 || (Nat.beq k 5 || (Nat.beq k 12 || Nat.beq k 13)) then
    (let l := fd h 0 8 + fd h 8 1 * pick2 16384 32768 (fd h 11 1)
     bif Nat.beq l 0 then nNone 65 h else ⟨pick2 53 52 (fd h 11 1), false, 14, 0, 13, 0, 0, false, l, true, Nat.beq (fd h 11 1) 0⟩)
  else bif Nat.beq k 10 then (bif Nat.beq (fd h 6 2) 2 then nNone 64 h else nReg (revOp (fd h 6 2)) (fd h 0 3) 0 (fd h 3 3) false)
  else bif Nat.beq k 14 then nNum 63 (fd h 0 8)
  else bif Nat.beq k 15 then (bif Nat.beq (fd h 0 4) 0 then nNum 61 (fd h 4 4) else bif !itOk (fd h 4 4) (fd h 0 4) || b then nNone 65 h else nNum 60 (fd h 0 8))
  else nNone 64 h
def rJump (h : Nat) (b : Bool) : NV :=
  bif Nat.beq (fd h 8 4) 14 then nNone 64 h
  else bif Nat.beq (fd h 8 4) 15 then nNum 62 (fd h 0 8)
  else bif b then nNone 65 h
  else branchN (fd h 8 4) h 8
def rdecN (h : Nat) (b : Bool) : NV :=
  let r := h / 2048
  let d := fd h 0 3
  let n := fd h 3 3
  let five := fd h 6 5
  let eight := fd h 0 8
  let high := fd h 8 3
  bif Nat.blt 28 r then nNone 64 h
  else bif Nat.beq r 0 then (bif Nat.beq five 0 then (bif b then nNone 65 h else nReg 13 d 0 n true) else nImm 17 d n five (!b))
  else bif Nat.beq r 1 || Nat.beq r 2 then nImm (pick2 18 19 (r - 1)) d n (bif Nat.beq five 0 then 32 else five) (!b)
  else bif Nat.beq r 3 then (bif Nat.beq (fd h 10 1) 1 then nImm (pick2 5 3 (fd h 9 1)) d n (fd h 6 3) (!b) else nReg (pick2 5 3 (fd h 9 1)) d n (fd h 6 3) (!b))
  else bif Nat.beq r 4 then nImm 13 high 0 eight (!b)
  else bif Nat.beq r 5 then nImm 10 0 high eight true
  else bif Nat.beq r 6 || Nat.beq r 7 then nImm (pick2 5 3 (r - 6)) high high eight (!b)
  else bif Nat.beq r 8 then rRegister h b
  else bif Nat.beq r 9 then nImm 44 high 15 (4 * eight) false
  else bif Nat.beq r 10 || Nat.beq r 11 then nReg (memOp (fd h 9 3)) d n (fd h 6 3) false
  else bif Nat.beq r 12 || Nat.beq r 13 then nImm (pick2 49 44 (r - 12)) d n (4 * five) false
  else bif Nat.beq r 14 || Nat.beq r 15 then nImm (pick2 50 45 (r - 14)) d n five false
  else bif Nat.beq r 16 || Nat.beq r 17 then nImm (pick2 51 46 (r - 16)) d n (2 * five) false
  else bif Nat.beq r 18 || Nat.beq r 19 then nImm (pick2 49 44 (r - 18)) high 13 (4 * eight) false
  else bif Nat.beq r 20 then nImm 43 high 0 (4 * eight) false
  else bif Nat.beq r 21 then nImm 5 high 13 (4 * eight) false
  else bif Nat.beq r 22 || Nat.beq r 23 then rMisc h b
  else bif Nat.beq r 24 || Nat.beq r 25 then
    (bif Nat.beq eight 0 || (heldN h && Nat.beq r 24) then nNone 65 h else ⟨pick2 53 52 (r - 24), false, 14, 0, high, 0, 0, false, eight, !heldN h, false⟩)
  else bif Nat.beq r 26 || Nat.beq r 27 then rJump h b
  else branchN 14 h 11
def allAt (p : Nat → Bool) (a : Nat) : Bool := (List.range 16).all fun i => (List.range 256).all fun b => p ((a * 16 + i) * 256 + b)
theorem allAt_at {p : Nat → Bool} (h : ∀ a, a < 16 → allAt p a = true) (n : Nat) (hn : n < 65536) : p n = true := by
  have h1 := h (n / 4096) (by omega)
  simp only [allAt, List.all_eq_true, List.mem_range] at h1
  have := h1 (n / 256 % 16) (by omega) (n % 256) (by omega)
  rwa [show (n / 4096 * 16 + n / 256 % 16) * 256 + n % 256 = n by omega] at this
end Go.Proofs.YtplhblhopaheeaaGreatDoor
namespace Go.Proofs.YtplhblhopaheeaaGreatDoor
end Go.Proofs.YtplhblhopaheeaaGreatDoor
namespace Go.Proofs.YtplhblhopaheeaaGreatDoor
end Go.Proofs.YtplhblhopaheeaaGreatDoor
namespace Go.Proofs.YtplhblhopaheeaaGreatDoor
open Go.ChangeShapes Go.WideShapes Go.ChangeAt Go.RowKit
set_option linter.unusedVariables false
set_option linter.unusedSimpArgs false

theorem fd_lt (h a s : Nat) : fd h a s < 2 ^ s := Nat.mod_lt _ (Nat.two_pow_pos s)
theorem fd_land (h a s : Nat) : (h / 2 ^ a) &&& (2 ^ s - 1) = fd h a s := Nat.and_two_pow_sub_one_eq_mod _ _
theorem fd_bits (h a s : Nat) (hh : h < 65536) (hs : s ≤ 15) (x y : Int) (hx : x = ((h / 2 ^ a : Nat) : Int)) (hy : y = ((2 ^ s - 1 : Nat) : Int)) : bits .and .u16 x y = (fd h a s : Nat) := by
  have h2 : 2 ^ s ≤ 2 ^ 15 := Nat.pow_le_pow_right (by decide) hs
  have h3 := Nat.two_pow_pos s
  rw [hx, hy, u16_and_nat _ _ (Nat.lt_of_le_of_lt (Nat.div_le_self _ _) hh) (by omega), fd_land]
theorem fd_wrap (h a s : Nat) (hs : s ≤ 15) : wrap64 (fd h a s : Nat) = (fd h a s : Nat) := by
  have h2 : 2 ^ s ≤ 2 ^ 15 := Nat.pow_le_pow_right (by decide) hs
  have := fd_lt h a s
  unfold wrap64
  omega
end Go.Proofs.YtplhblhopaheeaaGreatDoor
namespace Go.Proofs.YtplhblhopaheeaaGreatDoor
open Go.RowKit
set_option maxRecDepth 100000 in
theorem row_all : all16 (fun h => Nat.beq (Nat.land h 63488) (h / 2048 * 2048)) = true := by kernel_rfl
set_option maxRecDepth 100000 in
theorem page_all : all16 (fun h => Nat.beq (Nat.land h 65280) (h / 256 * 256)) = true := by kernel_rfl
set_option maxRecDepth 100000 in
theorem pair_all : all16 (fun h => Nat.beq (Nat.land (Nat.land h 65279) 65280) (h / 512 * 512)) = true := by kernel_rfl
theorem row_bits (h : Nat) (hh : h < 65536) : bits .and .u16 (h : Int) 63488 = ((h / 2048 * 2048 : Nat) : Int) := by
  rw [show (63488 : Int) = ((63488 : Nat) : Int) from rfl, u16_and_nat _ _ hh (by decide)]
  exact congrArg _ (Nat.eq_of_beq_eq_true (all16_at row_all h hh))
theorem page_bits (h : Nat) (hh : h < 65536) : bits .and .u16 (h : Int) 65280 = ((h / 256 * 256 : Nat) : Int) := by
  rw [show (65280 : Int) = ((65280 : Nat) : Int) from rfl, u16_and_nat _ _ hh (by decide)]
  exact congrArg _ (Nat.eq_of_beq_eq_true (all16_at page_all h hh))
set_option maxRecDepth 100000 in
theorem bit7_all : all16 (fun h => Nat.beq (Nat.land h 128) (fd h 7 1 * 128)) = true := by kernel_rfl
theorem bit7_bits (h : Nat) (hh : h < 65536) : bits .and .u16 (h : Int) 128 = ((fd h 7 1 * 128 : Nat) : Int) := by
  rw [show (128 : Int) = ((128 : Nat) : Int) from rfl, u16_and_nat _ _ hh (by decide)]
  exact congrArg _ (Nat.eq_of_beq_eq_true (all16_at bit7_all h hh))
set_option maxRecDepth 100000 in
theorem bit8_all : all16 (fun h => Nat.beq (Nat.land h 256) (fd h 8 1 * 256)) = true := by kernel_rfl
theorem bit8_bits (h : Nat) (hh : h < 65536) : bits .and .u16 (h : Int) 256 = ((fd h 8 1 * 256 : Nat) : Int) := by
  rw [show (256 : Int) = ((256 : Nat) : Int) from rfl, u16_and_nat _ _ hh (by decide)]
  exact congrArg _ (Nat.eq_of_beq_eq_true (all16_at bit8_all h hh))
set_option maxRecDepth 100000 in
theorem bit9_all : all16 (fun h => Nat.beq (Nat.land h 512) (fd h 9 1 * 512)) = true := by kernel_rfl
theorem bit9_bits (h : Nat) (hh : h < 65536) : bits .and .u16 (h : Int) 512 = ((fd h 9 1 * 512 : Nat) : Int) := by
  rw [show (512 : Int) = ((512 : Nat) : Int) from rfl, u16_and_nat _ _ hh (by decide)]
  exact congrArg _ (Nat.eq_of_beq_eq_true (all16_at bit9_all h hh))
set_option maxRecDepth 100000 in
theorem bit10_all : all16 (fun h => Nat.beq (Nat.land h 1024) (fd h 10 1 * 1024)) = true := by kernel_rfl
theorem bit10_bits (h : Nat) (hh : h < 65536) : bits .and .u16 (h : Int) 1024 = ((fd h 10 1 * 1024 : Nat) : Int) := by
  rw [show (1024 : Int) = ((1024 : Nat) : Int) from rfl, u16_and_nat _ _ hh (by decide)]
  exact congrArg _ (Nat.eq_of_beq_eq_true (all16_at bit10_all h hh))
theorem pair_bits (h : Nat) (hh : h < 65536) : bits .and .u16 (bits .andNot .u16 (h : Int) 256) 65280 = ((h / 512 * 512 : Nat) : Int) := by
  rw [show (256 : Int) = ((256 : Nat) : Int) from rfl, u16_andNot_nat _ _ hh (by decide), show (65280 : Int) = ((65280 : Nat) : Int) from rfl, u16_and_nat _ _ (Nat.lt_of_le_of_lt Nat.and_le_left hh) (by decide)]
  exact congrArg _ (Nat.eq_of_beq_eq_true (all16_at pair_all h hh))
end Go.Proofs.YtplhblhopaheeaaGreatDoor
namespace Go.Proofs.YtplhblhopaheeaaGreatDoor
open Go.ChangeShapes Go.WideShapes Go.ChangeAt Go.RowKit
set_option linter.unusedVariables false
set_option linter.unusedSimpArgs false

theorem nbeq (a b : Nat) : Nat.beq a b = decide (a = b) := by
  cases h : Nat.beq a b
  · have := Nat.ne_of_beq_eq_false h
    simp [this]
  · have := Nat.eq_of_beq_eq_true h
    simp [this]
theorem nble (a b : Nat) : Nat.ble a b = decide (a ≤ b) := by
  cases h : Nat.ble a b
  · have : ¬ a ≤ b := fun k => by rw [Nat.ble_eq_true_of_le k] at h; cases h
    simp [this]
  · have := Nat.le_of_ble_eq_true h
    simp [this]
theorem nblt (a b : Nat) : Nat.blt a b = decide (a < b) := nble (a + 1) b
def Says (w : World) (i : NV) (e : Ending) (w' : World) : Prop := e = .returned i.iv.val ∧ Below w.heap.size w w'
theorem i64_join (x y i : Nat) (hx : x % 2 ^ i = 0) (hx1 : x < 2 ^ 32) (hy : y < 2 ^ i) (hi : i ≤ 32) : bits .or .i64 (x : Int) (y : Int) = ((x + y : Nat) : Int) := by
  have h2 : 2 ^ i ≤ 2 ^ 32 := Nat.pow_le_pow_right (by decide) hi
  rw [(bits_nat .i64 33 (by decide) (fun n h1 h2 => by rw [IntKind.wrap_i64]; omega) x y (by omega) (by omega)).2]
  have hq : x = 2 ^ i * (x / 2 ^ i) := by
    have := Nat.div_add_mod x (2 ^ i)
    omega
  rw [hq, ← Nat.two_pow_add_eq_or_of_lt hy (x / 2 ^ i)]
theorem i64_bit (x n : Nat) (hx : x < 2 ^ 32) : bits .and .i64 ((x / 2 ^ n : Nat) : Int) 1 = ((fd x n 1 : Nat) : Int) := by
  have : x / 2 ^ n ≤ x := Nat.div_le_self _ _
  rw [show (1 : Int) = ((1 : Nat) : Int) from rfl, (bits_nat .i64 33 (by decide) (fun n h1 h2 => by rw [IntKind.wrap_i64]; omega) _ 1 (by omega) (by decide)).1]
  exact congrArg _ (fd_land x n 1)
end Go.Proofs.YtplhblhopaheeaaGreatDoor
namespace Go.Proofs.YtplhblhopaheeaaGreatDoor
open Go.ChangeShapes Go.WideShapes Go.ChangeAt Go.RowKit
set_option linter.unusedVariables false
set_option linter.unusedSimpArgs false

theorem plain_c (o : Int) (w : World) : Calls Tryz.prog 36 #[.int .i64 o] w fun e w' => e = .returned (IV.val ⟨o, false, false, 14, 0, 0, 0, 0, 0, false, 0, 0, 0, false, false⟩) ∧ Below w.heap.size w w' := by
  go_enter Tryz.func36, Tryz.ntmps36
  go_wp2
  refine bodyPost_ret (results_cell_row rfl _ _ w.heap.size _ _ _ _ rfl (heap_alloc_new w _) Tryz.underlying28 rfl (by kernel_rfl)) rfl ⟨rfl, (Below.refl _ _).alloc (Nat.le_refl _) _⟩
set_option maxHeartbeats 4000000 in
set_option maxRecDepth 100000 in
theorem rdata_c (o d n m : Int) (s : Bool) (w : World) : Calls Tryz.prog 32 #[.int .i64 o, .int .i64 d, .int .i64 n, .int .i64 m, .bool s] w fun e w' => e = .returned (IV.val (⟨o, false, s, 14, d, n, m, 0, 0, false, 0, 0, 0, false, false⟩ : IV)) ∧ Below w.heap.size w w' := by
  go_enter Tryz.func32, Tryz.ntmps32
  have S := SH.start w
  go_wp2_with (first
  | ((with_reducible refine wpl_isDst 10 ?_); refine SH.alloc (L := []) S rfl 28 rfl (Cel.iv IV.zero) zeroIV ?_; clear S; intro b1 w1 S)
  | ((with_reducible refine wpl_isDst 11 ?_); refine S.alloc rfl 28 rfl (Cel.iv IV.zero) zeroIV ?_; clear S; intro b2 w1 S)
  | ((with_reducible refine wpl_isLoad ?_); refine S.ldAll 28 _ rfl b2 rfl 0 (Cel.iv (⟨o, false, s, 14, d, n, m, 0, 0, false, 0, 0, 0, false, false⟩ : IV)) rfl _ Tryz.underlying28 rfl (szIV _) rfl ?_)
  | ((with_reducible refine wpl_isStore ?_); first
    | (refine S.store1 rfl 3 _ _ rfl b2 4 _ rfl rfl 0 (Cel.iv (⟨o, false, false, 14, 0, 0, 0, 0, 0, false, 0, 0, 0, false, false⟩ : IV)) rfl rfl (by simp [Cel.cells, IV.cellsL]) (Cel.iv (⟨o, false, false, 14, d, 0, 0, 0, 0, false, 0, 0, 0, false, false⟩ : IV)) rfl (by kernel_rfl) ?_; clear S; intro w2 S; simp only [List.set_cons_zero, List.set_cons_succ] at S)
    | (refine S.store1 rfl 3 _ _ rfl b2 5 _ rfl rfl 0 (Cel.iv (⟨o, false, false, 14, d, 0, 0, 0, 0, false, 0, 0, 0, false, false⟩ : IV)) rfl rfl (by simp [Cel.cells, IV.cellsL]) (Cel.iv (⟨o, false, false, 14, d, n, 0, 0, 0, false, 0, 0, 0, false, false⟩ : IV)) rfl (by kernel_rfl) ?_; clear S; intro w2 S; simp only [List.set_cons_zero, List.set_cons_succ] at S)
    | (refine S.store1 rfl 3 _ _ rfl b2 6 _ rfl rfl 0 (Cel.iv (⟨o, false, false, 14, d, n, 0, 0, 0, false, 0, 0, 0, false, false⟩ : IV)) rfl rfl (by simp [Cel.cells, IV.cellsL]) (Cel.iv (⟨o, false, false, 14, d, n, m, 0, 0, false, 0, 0, 0, false, false⟩ : IV)) rfl (by kernel_rfl) ?_; clear S; intro w2 S; simp only [List.set_cons_zero, List.set_cons_succ] at S)
    | (refine S.store1 rfl 4 _ _ rfl b2 2 _ rfl rfl 0 (Cel.iv (⟨o, false, false, 14, d, n, m, 0, 0, false, 0, 0, 0, false, false⟩ : IV)) rfl rfl (by simp [Cel.cells, IV.cellsL]) (Cel.iv (⟨o, false, s, 14, d, n, m, 0, 0, false, 0, 0, 0, false, false⟩ : IV)) rfl (by kernel_rfl) ?_; clear S; intro w2 S; simp only [List.set_cons_zero, List.set_cons_succ] at S)
    | (refine S.storeAll rfl 28 _ _ rfl b2 (Cel.iv (⟨o, false, false, 14, 0, 0, 0, 0, 0, false, 0, 0, 0, false, false⟩ : IV)) rfl rfl 0 _ rfl rfl (one_iv _) (szIV _) ?_; clear S; intro w2 S; simp only [List.set_cons_zero, List.set_cons_succ] at S)
    | (refine S.storeAll rfl 28 _ _ rfl b1 (Cel.iv (⟨o, false, s, 14, d, n, m, 0, 0, false, 0, 0, 0, false, false⟩ : IV)) rfl rfl 1 _ rfl rfl (one_iv _) (szIV _) ?_; clear S; intro w2 S; simp only [List.set_cons_zero, List.set_cons_succ] at S))
  | (go_at_call 36; refine (plain_c _ _).mono ?_; rintro e wf ⟨rfl, hbf⟩; replace S := S.below hbf; clear hbf))
  (try simp only [Exit.inBlock, Exit.then])
  refine bodyPost_ret (S.results rfl _ _ rfl 1 _ rfl _ Tryz.underlying28 rfl (szIV _)) rfl ⟨rfl, S.low⟩
set_option maxHeartbeats 4000000 in
set_option maxRecDepth 100000 in
theorem rimm_c (o d n v : Int) (s : Bool) (w : World) : Calls Tryz.prog 33 #[.int .i64 o, .int .i64 d, .int .i64 n, .int .u32 v, .bool s] w fun e w' => e = .returned (IV.val (⟨o, false, s, 14, d, n, 0, 0, v, true, 0, 0, 0, false, false⟩ : IV)) ∧ Below w.heap.size w w' := by
  go_enter Tryz.func33, Tryz.ntmps33
  have S := SH.start w
  go_wp2_with (first
  | ((with_reducible refine wpl_isDst 10 ?_); refine SH.alloc (L := []) S rfl 28 rfl (Cel.iv IV.zero) zeroIV ?_; clear S; intro b1 w1 S)
  | ((with_reducible refine wpl_isDst 11 ?_); refine S.alloc rfl 28 rfl (Cel.iv IV.zero) zeroIV ?_; clear S; intro b2 w1 S)
  | ((with_reducible refine wpl_isLoad ?_); refine S.ldAll 28 _ rfl b2 rfl 0 (Cel.iv (⟨o, false, s, 14, d, n, 0, 0, v, true, 0, 0, 0, false, false⟩ : IV)) rfl _ Tryz.underlying28 rfl (szIV _) rfl ?_)
  | ((with_reducible refine wpl_isStore ?_); first
    | (refine S.store1 rfl 3 _ _ rfl b2 4 _ rfl rfl 0 (Cel.iv (⟨o, false, false, 14, 0, 0, 0, 0, 0, false, 0, 0, 0, false, false⟩ : IV)) rfl rfl (by simp [Cel.cells, IV.cellsL]) (Cel.iv (⟨o, false, false, 14, d, 0, 0, 0, 0, false, 0, 0, 0, false, false⟩ : IV)) rfl (by kernel_rfl) ?_; clear S; intro w2 S; simp only [List.set_cons_zero, List.set_cons_succ] at S)
    | (refine S.store1 rfl 3 _ _ rfl b2 5 _ rfl rfl 0 (Cel.iv (⟨o, false, false, 14, d, 0, 0, 0, 0, false, 0, 0, 0, false, false⟩ : IV)) rfl rfl (by simp [Cel.cells, IV.cellsL]) (Cel.iv (⟨o, false, false, 14, d, n, 0, 0, 0, false, 0, 0, 0, false, false⟩ : IV)) rfl (by kernel_rfl) ?_; clear S; intro w2 S; simp only [List.set_cons_zero, List.set_cons_succ] at S)
    | (refine S.store1 rfl 26 _ _ rfl b2 8 _ rfl rfl 0 (Cel.iv (⟨o, false, false, 14, d, n, 0, 0, 0, false, 0, 0, 0, false, false⟩ : IV)) rfl rfl (by simp [Cel.cells, IV.cellsL]) (Cel.iv (⟨o, false, false, 14, d, n, 0, 0, v, false, 0, 0, 0, false, false⟩ : IV)) rfl (by kernel_rfl) ?_; clear S; intro w2 S; simp only [List.set_cons_zero, List.set_cons_succ] at S)
    | (refine S.store1 rfl 4 _ _ rfl b2 9 _ rfl rfl 0 (Cel.iv (⟨o, false, false, 14, d, n, 0, 0, v, false, 0, 0, 0, false, false⟩ : IV)) rfl rfl (by simp [Cel.cells, IV.cellsL]) (Cel.iv (⟨o, false, false, 14, d, n, 0, 0, v, true, 0, 0, 0, false, false⟩ : IV)) rfl (by kernel_rfl) ?_; clear S; intro w2 S; simp only [List.set_cons_zero, List.set_cons_succ] at S)
    | (refine S.store1 rfl 4 _ _ rfl b2 2 _ rfl rfl 0 (Cel.iv (⟨o, false, false, 14, d, n, 0, 0, v, true, 0, 0, 0, false, false⟩ : IV)) rfl rfl (by simp [Cel.cells, IV.cellsL]) (Cel.iv (⟨o, false, s, 14, d, n, 0, 0, v, true, 0, 0, 0, false, false⟩ : IV)) rfl (by kernel_rfl) ?_; clear S; intro w2 S; simp only [List.set_cons_zero, List.set_cons_succ] at S)
    | (refine S.storeAll rfl 28 _ _ rfl b2 (Cel.iv (⟨o, false, false, 14, 0, 0, 0, 0, 0, false, 0, 0, 0, false, false⟩ : IV)) rfl rfl 0 _ rfl rfl (one_iv _) (szIV _) ?_; clear S; intro w2 S; simp only [List.set_cons_zero, List.set_cons_succ] at S)
    | (refine S.storeAll rfl 28 _ _ rfl b1 (Cel.iv (⟨o, false, s, 14, d, n, 0, 0, v, true, 0, 0, 0, false, false⟩ : IV)) rfl rfl 1 _ rfl rfl (one_iv _) (szIV _) ?_; clear S; intro w2 S; simp only [List.set_cons_zero, List.set_cons_succ] at S))
  | (go_at_call 36; refine (plain_c _ _).mono ?_; rintro e wf ⟨rfl, hbf⟩; replace S := S.below hbf; clear hbf))
  (try simp only [Exit.inBlock, Exit.then])
  refine bodyPost_ret (S.results rfl _ _ rfl 1 _ rfl _ Tryz.underlying28 rfl (szIV _)) rfl ⟨rfl, S.low⟩
set_option maxHeartbeats 4000000 in
set_option maxRecDepth 100000 in
theorem rundef_c (h : Int) (w : World) : Calls Tryz.prog 30 #[.int .u32 h] w fun e w' => e = .returned (IV.val (⟨64, false, false, 14, 0, 0, 0, 0, h, false, 0, 0, 0, false, false⟩ : IV)) ∧ Below w.heap.size w w' := by
  go_enter Tryz.func30, Tryz.ntmps30
  have S := SH.start w
  go_wp2_with (first
  | ((with_reducible refine wpl_isDst 2 ?_); refine SH.alloc (L := []) S rfl 28 rfl (Cel.iv IV.zero) zeroIV ?_; clear S; intro b1 w1 S)
  | ((with_reducible refine wpl_isDst 3 ?_); refine S.alloc rfl 28 rfl (Cel.iv IV.zero) zeroIV ?_; clear S; intro b2 w1 S)
  | ((with_reducible refine wpl_isLoad ?_); refine S.ldAll 28 _ rfl b2 rfl 0 (Cel.iv (⟨64, false, false, 14, 0, 0, 0, 0, h, false, 0, 0, 0, false, false⟩ : IV)) rfl _ Tryz.underlying28 rfl (szIV _) rfl ?_)
  | ((with_reducible refine wpl_isStore ?_); first
    | (refine S.store1 rfl 26 _ _ rfl b2 8 _ rfl rfl 0 (Cel.iv (⟨64, false, false, 14, 0, 0, 0, 0, 0, false, 0, 0, 0, false, false⟩ : IV)) rfl rfl (by simp [Cel.cells, IV.cellsL]) (Cel.iv (⟨64, false, false, 14, 0, 0, 0, 0, h, false, 0, 0, 0, false, false⟩ : IV)) rfl (by kernel_rfl) ?_; clear S; intro w2 S; simp only [List.set_cons_zero, List.set_cons_succ] at S)
    | (refine S.storeAll rfl 28 _ _ rfl b2 (Cel.iv (⟨64, false, false, 14, 0, 0, 0, 0, 0, false, 0, 0, 0, false, false⟩ : IV)) rfl rfl 0 _ rfl rfl (one_iv _) (szIV _) ?_; clear S; intro w2 S; simp only [List.set_cons_zero, List.set_cons_succ] at S)
    | (refine S.storeAll rfl 28 _ _ rfl b1 (Cel.iv (⟨64, false, false, 14, 0, 0, 0, 0, h, false, 0, 0, 0, false, false⟩ : IV)) rfl rfl 1 _ rfl rfl (one_iv _) (szIV _) ?_; clear S; intro w2 S; simp only [List.set_cons_zero, List.set_cons_succ] at S))
  | (go_at_call 36; refine (plain_c _ _).mono ?_; rintro e wf ⟨rfl, hbf⟩; replace S := S.below hbf; clear hbf))
  (try simp only [Exit.inBlock, Exit.then])
  refine bodyPost_ret (S.results rfl _ _ rfl 1 _ rfl _ Tryz.underlying28 rfl (szIV _)) rfl ⟨rfl, S.low⟩
set_option maxHeartbeats 4000000 in
set_option maxRecDepth 100000 in
theorem rbad_c (h : Int) (w : World) : Calls Tryz.prog 31 #[.int .u32 h] w fun e w' => e = .returned (IV.val (⟨65, false, false, 14, 0, 0, 0, 0, h, false, 0, 0, 0, false, false⟩ : IV)) ∧ Below w.heap.size w w' := by
  go_enter Tryz.func31, Tryz.ntmps31
  have S := SH.start w
  go_wp2_with (first
  | ((with_reducible refine wpl_isDst 2 ?_); refine SH.alloc (L := []) S rfl 28 rfl (Cel.iv IV.zero) zeroIV ?_; clear S; intro b1 w1 S)
  | ((with_reducible refine wpl_isDst 3 ?_); refine S.alloc rfl 28 rfl (Cel.iv IV.zero) zeroIV ?_; clear S; intro b2 w1 S)
  | ((with_reducible refine wpl_isLoad ?_); refine S.ldAll 28 _ rfl b2 rfl 0 (Cel.iv (⟨65, false, false, 14, 0, 0, 0, 0, h, false, 0, 0, 0, false, false⟩ : IV)) rfl _ Tryz.underlying28 rfl (szIV _) rfl ?_)
  | ((with_reducible refine wpl_isStore ?_); first
    | (refine S.store1 rfl 26 _ _ rfl b2 8 _ rfl rfl 0 (Cel.iv (⟨65, false, false, 14, 0, 0, 0, 0, 0, false, 0, 0, 0, false, false⟩ : IV)) rfl rfl (by simp [Cel.cells, IV.cellsL]) (Cel.iv (⟨65, false, false, 14, 0, 0, 0, 0, h, false, 0, 0, 0, false, false⟩ : IV)) rfl (by kernel_rfl) ?_; clear S; intro w2 S; simp only [List.set_cons_zero, List.set_cons_succ] at S)
    | (refine S.storeAll rfl 28 _ _ rfl b2 (Cel.iv (⟨65, false, false, 14, 0, 0, 0, 0, 0, false, 0, 0, 0, false, false⟩ : IV)) rfl rfl 0 _ rfl rfl (one_iv _) (szIV _) ?_; clear S; intro w2 S; simp only [List.set_cons_zero, List.set_cons_succ] at S)
    | (refine S.storeAll rfl 28 _ _ rfl b1 (Cel.iv (⟨65, false, false, 14, 0, 0, 0, 0, h, false, 0, 0, 0, false, false⟩ : IV)) rfl rfl 1 _ rfl rfl (one_iv _) (szIV _) ?_; clear S; intro w2 S; simp only [List.set_cons_zero, List.set_cons_succ] at S))
  | (go_at_call 36; refine (plain_c _ _).mono ?_; rintro e wf ⟨rfl, hbf⟩; replace S := S.below hbf; clear hbf))
  (try simp only [Exit.inBlock, Exit.then])
  refine bodyPost_ret (S.results rfl _ _ rfl 1 _ rfl _ Tryz.underlying28 rfl (szIV _)) rfl ⟨rfl, S.low⟩
theorem riswide_c (h : Nat) (hh : h < 65536) (w : World) : Calls Tryz.prog 11 #[.int .u16 h] w fun e w' => e = .returned (.bool (Nat.blt 28 (h / 2048))) ∧ w' = w := by
  have key : decide (29 ≤ (h : Int) / 2048) = Nat.blt 28 (h / 2048) := by
    rw [nblt]
    by_cases q : 28 < h / 2048
    · simp [q]; omega
    · simp [q]; omega
  go_enter Tryz.func11, Tryz.ntmps11
  go_wp2
  go_ret
  exact ⟨by rw [← key]; rfl, rfl⟩
end Go.Proofs.YtplhblhopaheeaaGreatDoor
namespace Go.Proofs.YtplhblhopaheeaaGreatDoor
open Go.ChangeShapes Go.WideShapes Go.ChangeAt Go.RowKit
set_option linter.unusedVariables false
set_option linter.unusedSimpArgs false

theorem i64_fd (h a s : Nat) (hh : h < 65536) (hs : s ≤ 15) (x y : Int) (hx : x = ((h / 2 ^ a : Nat) : Int)) (hy : y = ((2 ^ s - 1 : Nat) : Int)) : bits .and .i64 x y = (fd h a s : Nat) := by
  have h2 : 2 ^ s ≤ 2 ^ 15 := Nat.pow_le_pow_right (by decide) hs
  have h3 := Nat.two_pow_pos s
  have : h / 2 ^ a ≤ h := Nat.div_le_self _ _
  rw [hx, hy, (bits_nat .i64 33 (by decide) (fun n h1 h2 => by rw [IntKind.wrap_i64]; omega) _ _ (by omega) (by omega)).1, fd_land]
theorem SH.sliceA {P : Program} {M : Zn} {w w0 : World} {L : List (Nat × Cel)} {ops : Array Oper} {rest : List Oper} {o : Oper} {a : Act} {Q : Exit → Act → World → Prop} (S : SH M w0 w L) (hgd : o.guard = none) (ty n : Nat) (xs : Array (Nat × Operand)) (ho : o.op = .buildSlice ty n xs) (cs : List Value) (e : TypeId)
    (hr : (execOp a.eval o).run P w = .ok (.value (.slice (some ⟨w.heap.size, 0, none⟩) n n)) (w.alloc (.cells cs.toArray e)))
    (h : ∀ g w1, SH M w0 w1 ((g, Cel.any cs) :: L) → wpList P ops Q rest (a.put o.dst (.slice (some ⟨g, 0, none⟩) n n)) w1) : wpList P ops Q (o :: rest) a w :=
  wpList_plain hgd fun K hK => by
    unfold Oper.wp
    rw [hr]
    exact hK _ _ (h _ _ (S.new (Cel.any cs) e))
abbrev iZ (op n imm list cond : Int) (back down : Bool) : IV := ⟨op, false, false, cond, 0, n, 0, 0, imm, false, 0, 0, list, back, down⟩
theorem keys6 (h : Nat) (hh : h < 65536) : (bits .and .i64 ((h : Int)) 7 = ((fd h 0 3 : Nat) : Int)) ∧ (fd h 0 3 < 8) ∧ (bits .and .i64 ((h : Int) / 8) 7 = ((fd h 3 3 : Nat) : Int)) ∧ (fd h 3 3 < 8) ∧ (bits .and .i64 ((h : Int) / 64) 7 = ((fd h 6 3 : Nat) : Int)) ∧ (fd h 6 3 < 8) ∧ (bits .and .i64 ((h : Int) / 64) 31 = ((fd h 6 5 : Nat) : Int)) ∧ (fd h 6 5 < 32) ∧ (bits .and .i64 ((h : Int)) 255 = ((fd h 0 8 : Nat) : Int)) ∧ (fd h 0 8 < 256) ∧ (bits .and .i64 ((h : Int) / 256) 7 = ((fd h 8 3 : Nat) : Int)) ∧ (fd h 8 3 < 8) :=
  ⟨i64_fd h 0 3 hh (by decide) _ _ (by first | rfl | simp) rfl, fd_lt h 0 3, i64_fd h 3 3 hh (by decide) _ _ (by first | rfl | simp) rfl, fd_lt h 3 3, i64_fd h 6 3 hh (by decide) _ _ (by first | rfl | simp) rfl, fd_lt h 6 3, i64_fd h 6 5 hh (by decide) _ _ (by first | rfl | simp) rfl, fd_lt h 6 5, i64_fd h 0 8 hh (by decide) _ _ (by first | rfl | simp) rfl, fd_lt h 0 8, i64_fd h 8 3 hh (by decide) _ _ (by first | rfl | simp) rfl, fd_lt h 8 3⟩
end Go.Proofs.YtplhblhopaheeaaGreatDoor
namespace Go.Proofs.YtplhblhopaheeaaGreatDoor
open Go.ChangeShapes Go.WideShapes Go.ChangeAt Go.RowKit
set_option linter.unusedVariables false
set_option linter.unusedSimpArgs false
set_option maxHeartbeats 20000000
set_option maxRecDepth 100000

theorem fdv (h a s v : Nat) (hh : h < 65536) (hs : s ≤ 15) (x y : Int) (hx : x = ((h / 2 ^ a : Nat) : Int)) (hy : y = ((2 ^ s - 1 : Nat) : Int)) (q : fd h a s = v) : bits .and .i64 x y = (v : Int) := by
  rw [i64_fd h a s hh hs x y hx hy, q]
theorem fd01 (h a : Nat) (hh : h < 65536) (x : Int) (hx : x = ((h / 2 ^ a : Nat) : Int)) : (fd h a 1 = 0 ∧ bits .and .i64 x 1 = 0) ∨ (fd h a 1 = 1 ∧ bits .and .i64 x 1 = 1) := by
  have := fd_lt h a 1
  rcases (show fd h a 1 = 0 ∨ fd h a 1 = 1 by omega) with q | q
  · exact .inl ⟨q, fdv h a 1 0 hh (by decide) x 1 hx rfl q⟩
  · exact .inr ⟨q, fdv h a 1 1 hh (by decide) x 1 hx rfl q⟩
theorem nz (n : Nat) : (n = 0 ∧ ((n : Int) == 0) = true) ∨ (n ≠ 0 ∧ ((n : Int) == 0) = false) := by
  by_cases h : n = 0
  · exact .inl ⟨h, by simp [h]⟩
  · exact .inr ⟨h, by simp [h]⟩
theorem e15 (n : Nat) : (n = 15 ∧ ((n : Int) == 15) = true) ∨ (n ≠ 15 ∧ ((n : Int) == 15) = false) := by
  by_cases h : n = 15
  · exact .inl ⟨h, by simp [h]⟩
  · exact .inr ⟨h, by simp; omega⟩
theorem l8 (n : Nat) : (n < 8 ∧ decide ((n : Int) < 8) = true) ∨ (¬ n < 8 ∧ decide ((n : Int) < 8) = false) := by
  by_cases h : n < 8
  · exact .inl ⟨h, by simp; omega⟩
  · exact .inr ⟨h, by simp; omega⟩
theorem nzn (n : Nat) : (n = 0 ∧ ((n : Int) != 0) = false) ∨ (n ≠ 0 ∧ ((n : Int) != 0) = true) := by
  by_cases h : n = 0
  · exact .inl ⟨h, by simp [h]⟩
  · exact .inr ⟨h, by simp [h]⟩
theorem eight_all : all16 (fun h => Nat.beq (Nat.land (h / 16) 8) (fd h 7 1 * 8)) = true := by kernel_rfl
theorem eight_bits (h : Nat) (hh : h < 65536) : bits .and .i64 ((h : Int) / 16) 8 = ((fd h 7 1 * 8 : Nat) : Int) := by
  have h1 : ((h : Int) / 16) = ((h / 16 : Nat) : Int) := by omega
  rw [h1, show (8 : Int) = ((8 : Nat) : Int) from rfl, (bits_nat .i64 33 (by decide) (fun n h1 h2 => by rw [IntKind.wrap_i64]; omega) _ 8 (by omega) (by decide)).1]
  exact congrArg _ (Nat.eq_of_beq_eq_true (all16_at eight_all h hh))
theorem highR_bits (h : Nat) : bits .or .i64 ((fd h 0 3 : Nat) : Int) ((fd h 7 1 * 8 : Nat) : Int) = ((highD h : Nat) : Int) := by
  have f1 : fd h 7 1 < 2 := fd_lt h 7 1
  have f2 : fd h 0 3 < 8 := fd_lt h 0 3
  rw [(bits_nat .i64 33 (by decide) (fun n h1 h2 => by rw [IntKind.wrap_i64]; omega) _ _ (by omega) (by omega)).2, Nat.or_comm]
  refine congrArg _ ?_
  have := Nat.two_pow_add_eq_or_of_lt (i := 3) f2 (fd h 7 1)
  unfold highD
  rw [show fd h 7 1 * 8 = 2 ^ 3 * fd h 7 1 by omega, ← this]
theorem u32_fd (h a s : Nat) (hh : h < 65536) (hs : s ≤ 15) (x y : Int) (hx : x = ((h / 2 ^ a : Nat) : Int)) (hy : y = ((2 ^ s - 1 : Nat) : Int)) : bits .and .u32 x y = (fd h a s : Nat) := by
  have h2 : 2 ^ s ≤ 2 ^ 15 := Nat.pow_le_pow_right (by decide) hs
  have h3 := Nat.two_pow_pos s
  have : h / 2 ^ a ≤ h := Nat.div_le_self _ _
  rw [hx, hy, u32_and_nat _ _ (by omega) (by omega), fd_land]
theorem cbj (h : Nat) : ∃ JO : Nat, fd h 3 5 + fd h 9 1 * 32 = JO ∧ JO < 64 ∧ bits .or .u32 ((fd h 3 5 : Nat) : Int) ((fd h 9 1 : Nat) * 32 : Int) = ((JO : Nat) : Int) := by
  have f35 : fd h 3 5 < 32 := fd_lt h 3 5
  have f91 : fd h 9 1 < 2 := fd_lt h 9 1
  refine ⟨_, rfl, by omega, ?_⟩
  rw [show ((fd h 9 1 : Nat) * 32 : Int) = ((fd h 9 1 * 32 : Nat) : Int) from rfl, u32_or_nat _ _ (by omega) (by omega), Nat.or_comm, show fd h 9 1 * 32 = 2 ^ 5 * fd h 9 1 by omega, ← Nat.two_pow_add_eq_or_of_lt f35 (fd h 9 1), Nat.add_comm]
end Go.Proofs.YtplhblhopaheeaaGreatDoor
namespace Go.Proofs.YtplhblhopaheeaaGreatDoor
open Go.ChangeShapes Go.WideShapes Go.ChangeAt Go.RowKit
set_option linter.unusedVariables false
set_option linter.unusedSimpArgs false

def signS (v : Int) (n : Nat) : Int := if v % 2 ^ n < 2 ^ (n - 1) then v % 2 ^ n else v % 2 ^ n + (4294967296 - 2 ^ n)
theorem rzero_8 (v : Nat) (hv : v < 256) (w : World) : Calls Tryz.prog 69 #[.int .u32 v, .int .i64 8] w fun e w' => e = .returned (.int .u32 v) ∧ w' = w := by
  have hm : bits .and .u64 (v : Int) 255 = v := by
    rw [show (255 : Int) = ((255 : Nat) : Int) from rfl, u64_and_nat _ _ (by omega) (by decide)]
    exact congrArg _ (by have := Nat.and_two_pow_sub_one_of_lt_two_pow (n := 8) (x := v) (by omega); simpa using this)
  go_enter Tryz.func69, Tryz.ntmps69
  go_wp2
  go_ret
  exact ⟨rfl, rfl⟩
theorem rbit_7 (v : Nat) (hv : v < 256) (w : World) : Calls Tryz.prog 70 #[.int .u32 v, .int .i64 7] w fun e w' => e = .returned (.bool (decide (128 ≤ v))) ∧ w' = w := by
  have hm : bits .and .u32 ((v : Int) / 128) 1 = ((v / 128 : Nat) : Int) := by
    rw [show ((v : Int) / 128) = ((v / 128 : Nat) : Int) by omega, show (1 : Int) = ((1 : Nat) : Int) from rfl, u32_and_nat _ _ (by omega) (by decide), Nat.and_one_is_mod]
    omega
  by_cases q : 128 ≤ v
  · have hd : (v / 128 : Nat) = 1 := by omega
    rw [hd] at hm
    rw [show decide (128 ≤ v) = true by simpa using q]
    clear hd
    go_enter Tryz.func70, Tryz.ntmps70
    go_wp2
    go_ret
    exact ⟨rfl, rfl⟩
  · have hd : (v / 128 : Nat) = 0 := by omega
    rw [hd] at hm
    rw [show decide (128 ≤ v) = false by simpa using q]
    clear hd
    go_enter Tryz.func70, Tryz.ntmps70
    go_wp2
    go_ret
    exact ⟨rfl, rfl⟩
theorem sor_8 : ((List.range 256).all fun x => decide (bits .or .u64 (x : Int) 18446744073709551360 = ((x + 18446744073709551360 : Nat) : Int))) = true := by decide +kernel
theorem rsign_m8 (v : Nat) (hv : v < 256) (w : World) : Calls Tryz.prog 38 #[.int .u32 v, .int .i64 8] w fun e w' => e = .returned (.int .u32 (signS v 8)) ∧ w' = w := by
  have hz := rzero_8 v hv w
  have hb := rbit_7 v hv w
  by_cases q : 128 ≤ v
  · rw [show decide (128 ≤ v) = true by simpa using q] at hb
    have ho : bits .or .u64 (v : Int) 18446744073709551360 = ((v + 18446744073709551360 : Nat) : Int) := by
      have h := sor_8
      simp only [List.all_eq_true, List.mem_range, decide_eq_true_eq] at h
      exact h v hv
    have hx : bits .xor .u64 IntKind.u64.max 255 = 18446744073709551360 := by decide
    have ha : bits .and .u64 ((v + 18446744073709551360 : Nat) : Int) 4294967295 = ((v + 4294967040 : Nat) : Int) := by
      rw [show (4294967295 : Int) = ((4294967295 : Nat) : Int) from rfl, u64_and_nat _ _ (by omega) (by decide)]
      exact congrArg _ (by have := Nat.and_two_pow_sub_one_eq_mod (v + 18446744073709551360) 32; rw [show (2 ^ 32 - 1 : Nat) = 4294967295 from rfl] at this; rw [this]; omega)
    have e : signS v 8 = ((v + 4294967040 : Nat) : Int) := by
      unfold signS
      rw [if_neg (by omega)]
      omega
    rw [e]
    generalize hR : v + 4294967040 = R at *
    generalize hT : v + 18446744073709551360 = T at *
    have r1 : R < 4294967296 := by omega
    have r2 : T < 18446744073709551616 := by omega
    clear hR hT e q
    go_enter Tryz.func38, Tryz.ntmps38
    go_wp2_with (first | (go_at_call 69; refine hz.mono ?_; rintro e w' ⟨rfl, rfl⟩) | (go_at_call 70; refine hb.mono ?_; rintro e w' ⟨rfl, rfl⟩))
    go_ret
    exact ⟨congrArg (fun x => Ending.returned (Value.int IntKind.u32 x)) (Int.emod_eq_of_lt (by omega) (by omega)), rfl⟩
  · rw [show decide (128 ≤ v) = false by simpa using q] at hb
    have e : signS v 8 = (v : Int) := by
      unfold signS
      rw [if_pos (by omega)]
      omega
    rw [e]
    clear e
    go_enter Tryz.func38, Tryz.ntmps38
    go_wp2_with (first | (go_at_call 69; refine hz.mono ?_; rintro e w' ⟨rfl, rfl⟩) | (go_at_call 70; refine hb.mono ?_; rintro e w' ⟨rfl, rfl⟩))
    go_ret
    exact ⟨rfl, rfl⟩
theorem rzero_11 (v : Nat) (hv : v < 2048) (w : World) : Calls Tryz.prog 69 #[.int .u32 v, .int .i64 11] w fun e w' => e = .returned (.int .u32 v) ∧ w' = w := by
  have hm : bits .and .u64 (v : Int) 2047 = v := by
    rw [show (2047 : Int) = ((2047 : Nat) : Int) from rfl, u64_and_nat _ _ (by omega) (by decide)]
    exact congrArg _ (by have := Nat.and_two_pow_sub_one_of_lt_two_pow (n := 11) (x := v) (by omega); simpa using this)
  go_enter Tryz.func69, Tryz.ntmps69
  go_wp2
  go_ret
  exact ⟨rfl, rfl⟩
theorem rbit_10 (v : Nat) (hv : v < 2048) (w : World) : Calls Tryz.prog 70 #[.int .u32 v, .int .i64 10] w fun e w' => e = .returned (.bool (decide (1024 ≤ v))) ∧ w' = w := by
  have hm : bits .and .u32 ((v : Int) / 1024) 1 = ((v / 1024 : Nat) : Int) := by
    rw [show ((v : Int) / 1024) = ((v / 1024 : Nat) : Int) by omega, show (1 : Int) = ((1 : Nat) : Int) from rfl, u32_and_nat _ _ (by omega) (by decide), Nat.and_one_is_mod]
    omega
  by_cases q : 1024 ≤ v
  · have hd : (v / 1024 : Nat) = 1 := by omega
    rw [hd] at hm
    rw [show decide (1024 ≤ v) = true by simpa using q]
    clear hd
    go_enter Tryz.func70, Tryz.ntmps70
    go_wp2
    go_ret
    exact ⟨rfl, rfl⟩
  · have hd : (v / 1024 : Nat) = 0 := by omega
    rw [hd] at hm
    rw [show decide (1024 ≤ v) = false by simpa using q]
    clear hd
    go_enter Tryz.func70, Tryz.ntmps70
    go_wp2
    go_ret
    exact ⟨rfl, rfl⟩
theorem sor_11 : ((List.range 2048).all fun x => decide (bits .or .u64 (x : Int) 18446744073709549568 = ((x + 18446744073709549568 : Nat) : Int))) = true := by decide +kernel
theorem rsign_m11 (v : Nat) (hv : v < 2048) (w : World) : Calls Tryz.prog 38 #[.int .u32 v, .int .i64 11] w fun e w' => e = .returned (.int .u32 (signS v 11)) ∧ w' = w := by
  have hz := rzero_11 v hv w
  have hb := rbit_10 v hv w
  by_cases q : 1024 ≤ v
  · rw [show decide (1024 ≤ v) = true by simpa using q] at hb
    have ho : bits .or .u64 (v : Int) 18446744073709549568 = ((v + 18446744073709549568 : Nat) : Int) := by
      have h := sor_11
      simp only [List.all_eq_true, List.mem_range, decide_eq_true_eq] at h
      exact h v hv
    have hx : bits .xor .u64 IntKind.u64.max 2047 = 18446744073709549568 := by decide
    have ha : bits .and .u64 ((v + 18446744073709549568 : Nat) : Int) 4294967295 = ((v + 4294965248 : Nat) : Int) := by
      rw [show (4294967295 : Int) = ((4294967295 : Nat) : Int) from rfl, u64_and_nat _ _ (by omega) (by decide)]
      exact congrArg _ (by have := Nat.and_two_pow_sub_one_eq_mod (v + 18446744073709549568) 32; rw [show (2 ^ 32 - 1 : Nat) = 4294967295 from rfl] at this; rw [this]; omega)
    have e : signS v 11 = ((v + 4294965248 : Nat) : Int) := by
      unfold signS
      rw [if_neg (by omega)]
      omega
    rw [e]
    generalize hR : v + 4294965248 = R at *
    generalize hT : v + 18446744073709549568 = T at *
    have r1 : R < 4294967296 := by omega
    have r2 : T < 18446744073709551616 := by omega
    clear hR hT e q
    go_enter Tryz.func38, Tryz.ntmps38
    go_wp2_with (first | (go_at_call 69; refine hz.mono ?_; rintro e w' ⟨rfl, rfl⟩) | (go_at_call 70; refine hb.mono ?_; rintro e w' ⟨rfl, rfl⟩))
    go_ret
    exact ⟨congrArg (fun x => Ending.returned (Value.int IntKind.u32 x)) (Int.emod_eq_of_lt (by omega) (by omega)), rfl⟩
  · rw [show decide (1024 ≤ v) = false by simpa using q] at hb
    have e : signS v 11 = (v : Int) := by
      unfold signS
      rw [if_pos (by omega)]
      omega
    rw [e]
    clear e
    go_enter Tryz.func38, Tryz.ntmps38
    go_wp2_with (first | (go_at_call 69; refine hz.mono ?_; rintro e w' ⟨rfl, rfl⟩) | (go_at_call 70; refine hb.mono ?_; rintro e w' ⟨rfl, rfl⟩))
    go_ret
    exact ⟨rfl, rfl⟩
theorem sgn8 (h : Nat) (hh : h < 65536) : signS ((fd h 0 8 : Nat) : Int) 8 * 2 % 4294967296 = ((farN h 8 : Nat) : Int) ∧ 0 ≤ signS ((fd h 0 8 : Nat) : Int) 8 ∧ signS ((fd h 0 8 : Nat) : Int) 8 < 4294967296 := by
  have f : fd h 0 8 < 256 := fd_lt h 0 8
  unfold farN signS
  rw [nblt]
  generalize fd h 0 8 = x at *
  by_cases q : x < 128
  · rw [show decide (x < 2 ^ (8 - 1)) = true by simpa using q]
    simp only [cond_true, Nat.reduceSub, Int.reducePow]
    split <;> omega
  · rw [show decide (x < 2 ^ (8 - 1)) = false by simpa using q]
    simp only [cond_false, Nat.reduceSub, Int.reducePow]
    split <;> omega
theorem rsign_8 (h : Nat) (hh : h < 65536) (w : World) : Calls Tryz.prog 38 #[.int .u32 (fd h 0 8 : Nat), .int .i64 8] w fun e w' => e = .returned (.int .u32 (signS ((fd h 0 8 : Nat) : Int) 8)) ∧ w' = w := by
  have f : fd h 0 8 < 256 := fd_lt h 0 8
  exact rsign_m8 (fd h 0 8) f w
theorem sgn11 (h : Nat) (hh : h < 65536) : signS ((fd h 0 11 : Nat) : Int) 11 * 2 % 4294967296 = ((farN h 11 : Nat) : Int) ∧ 0 ≤ signS ((fd h 0 11 : Nat) : Int) 11 ∧ signS ((fd h 0 11 : Nat) : Int) 11 < 4294967296 := by
  have f : fd h 0 11 < 2048 := fd_lt h 0 11
  unfold farN signS
  rw [nblt]
  generalize fd h 0 11 = x at *
  by_cases q : x < 1024
  · rw [show decide (x < 2 ^ (11 - 1)) = true by simpa using q]
    simp only [cond_true, Nat.reduceSub, Int.reducePow]
    split <;> omega
  · rw [show decide (x < 2 ^ (11 - 1)) = false by simpa using q]
    simp only [cond_false, Nat.reduceSub, Int.reducePow]
    split <;> omega
theorem rsign_11 (h : Nat) (hh : h < 65536) (w : World) : Calls Tryz.prog 38 #[.int .u32 (fd h 0 11 : Nat), .int .i64 11] w fun e w' => e = .returned (.int .u32 (signS ((fd h 0 11 : Nat) : Int) 11)) ∧ w' = w := by
  have f : fd h 0 11 < 2048 := fd_lt h 0 11
  exact rsign_m11 (fd h 0 11) f w
theorem u32_255 (h : Nat) (hh : h < 65536) : bits .and .u32 (h : Int) 255 = ((fd h 0 8 : Nat) : Int) := by
  rw [show (255 : Int) = ((255 : Nat) : Int) from rfl, u32_and_nat _ _ (by omega) (by decide)]
  exact congrArg _ (by have := fd_land h 0 8; simpa using this)
end Go.Proofs.YtplhblhopaheeaaGreatDoor
