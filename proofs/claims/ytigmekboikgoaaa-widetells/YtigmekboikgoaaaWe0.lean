/- Stage 9: walks by program; what a wide word says. -/
import Derived.Test.YtigmekboikgoaaaWd8
import Derived.Test.YtigmekboikgoaaaXp
namespace Go.Proofs.Ytigmekboikgoaaa
open Go.ChangeShapes Go.WideShapes Go.ChangeAt Go.RowKit
set_option linter.unusedVariables false
set_option linter.unusedSimpArgs false

def zeroL : List Value := [.int .i64 0, .bool false, .bool false, .int .i64 0, .int .i64 0, .int .i64 0, .int .i64 0, .int .i64 0, .int .u32 0, .bool false, .int .i64 0, .int .i64 0, .int .i64 0, .bool false, .bool false]
theorem zeroA : (Try.prog.info? 30).map (fun i => i.zero) = some (some (Cel.any zeroL).val) := zeroIV
theorem szA (cs : List Value) (h : cs.length = 15) : (Try.prog.info? 30).map (·.size) = some (Cel.any cs).cells.length := by
  show _ = some cs.length
  rw [h]
  exact szIV IV.zero
section
variable {P : Program} {M : Zn} {w0 w : World} {L : List (Nat × Cel)} {ops : Array Oper} {rest : List Oper} {o : Oper} {a : Act} {Q : Exit → Act → World → Prop}
theorem SH.boxA (S : SH M w0 w L) (hgd : o.guard = none) (ty : TypeId) (x : Operand) (ho : o.op = .box ty x) (cs : List Value) (hx : a.eval x = .agg cs.toArray)
    (h : ∀ b w1, SH M w0 w1 ((b, Cel.any cs) :: L) → wpList P ops Q rest (a.put o.dst (.pointer (some ⟨b, 0, none⟩))) w1) : wpList P ops Q (o :: rest) a w :=
  S.box hgd ty x ho (Cel.any cs) hx h
theorem SH.storeA (S : SH M w0 w L) (hgd : o.guard = none) (ty : TypeId) (x y : Operand) (ho : o.op = .store ty x y) (b : Nat) (cs : List Value) (hx : a.eval x = .pointer (some ⟨b, 0, none⟩)) (hy : a.eval y = .agg cs.toArray) (i : Nat) (c : Cel) (hL : L[i]? = some (b, c))
    (hl : c.cells.length = cs.length) (h1 : cs.all (fun v => v.oneCell') = true) (hi : (P.info? ty).map (·.size) = some (Cel.any cs).cells.length)
    (h : ∀ w1, SH M w0 w1 (L.set i (b, Cel.any cs)) → wpList P ops Q rest (a.put o.dst undef) w1) : wpList P ops Q (o :: rest) a w :=
  S.storeAll hgd ty x y ho b (Cel.any cs) hx hy i c hL hl (fun v hv => List.all_eq_true.1 h1 v hv) hi h
theorem wpl_isStoreAt (k : Nat) {d : Option Nat} {ty : TypeId} {y : Operand} {t : TypeId} {p : String} {af : Array Edge} {g : Option (Nat × Bool)} (h : wpList P ops Q ({ dst := d, op := Op.store ty (Operand.tmp k) y, type := t, pos := p, after := af, guard := g } :: rest) a w) : wpList P ops Q ({ dst := d, op := Op.store ty (Operand.tmp k) y, type := t, pos := p, after := af, guard := g } :: rest) a w := h
theorem SH.results2 (S : SH M w0 w L) {fn : Func} {p q : Tmp} {ty : TypeId} (hfn : fn.results = #[.cell p ty, .tmp q]) (tmps : Array Value) (b : Nat) (hp : tmps.getD p undef = .pointer (some ⟨b, 0, none⟩)) (i : Nat) (c : Cel) (hL : L[i]? = some (b, c))
    (d : TypeDesc) (hu : P.underlying ty = some d) (hd : d.isRow = true) (hi : (P.info? ty).map (·.size) = some c.cells.length) : (Go.results fn tmps).run P w = .ok (.tuple #[c.val, tmps.getD q undef]) w := by
  obtain ⟨⟨t, hb⟩, _⟩ := S.at hL
  have hp' : tmps[p]?.getD undef = .pointer (some ⟨b, 0, none⟩) := by simpa using hp
  simp [Go.results, hfn, hp', asAddr, Cel.val, run_loadVar_row w b t ty _ _ d hb hu (by cases d <;> simp_all) (by simpa using hi)]
theorem SH.sliceA (S : SH M w0 w L) (hgd : o.guard = none) (ty n : Nat) (xs : Array (Nat × Operand)) (ho : o.op = .buildSlice ty n xs) (cs : List Value) (e : TypeId)
    (hr : (execOp a.eval o).run P w = .ok (.value (.slice (some ⟨w.heap.size, 0, none⟩) n n)) (w.alloc (.cells cs.toArray e)))
    (h : ∀ g w1, SH M w0 w1 ((g, Cel.any cs) :: L) → wpList P ops Q rest (a.put o.dst (.slice (some ⟨g, 0, none⟩) n n)) w1) : wpList P ops Q (o :: rest) a w :=
  wpList_plain hgd fun K hK => by
    unfold Oper.wp
    rw [hr]
    exact hK _ _ (h _ _ (S.new (Cel.any cs) e))
end
/-- What the first two rows say without their second. -/
def dataJ (p d n : Int) (s : Bool) : IV :=
  bif lessD p != p && (s && d == 15) then (bif lessN (lessD p) != lessD p && n == 15 then ⟨lessN (lessD p), true, s, 14, 0, 0, 0, 0, 0, false, 0, 0, 0, false, false⟩ else ⟨lessD p, true, s, 14, 0, n, 0, 0, 0, false, 0, 0, 0, false, false⟩)
  else bif lessN p != p && n == 15 then ⟨lessN p, true, s, 14, d, 0, 0, 0, 0, false, 0, 0, 0, false, false⟩ else ⟨p, true, s, 14, d, n, 0, 0, 0, false, 0, 0, 0, false, false⟩
def dataX (x : Nat) : IV := dataJ (dataOpS (fd x 21 4 : Nat)) (fd x 8 4 : Nat) (fd x 16 4 : Nat) (fd x 20 1 != 0)
def numX (x : Nat) : Nat := fd x 26 1 * 2048 + fd x 12 3 * 256 + fd x 0 8
def modX (x : Nat) : IV := bif (dataX x).op == 64 then noneI 64 x else checkedI (secondI (dataX x) (expandS (numX x : Nat) false).1 (bif Nat.beq (numX x / 1024) 0 then 0 else 1)) (expandS (numX x : Nat) false).2.2 x
def shiftG (t b : Nat) : Int × Int :=
  bif Nat.beq t 0 then (bif Nat.beq b 0 then (0, 0) else (1, (b : Int)))
  else bif Nat.beq t 3 then (bif Nat.beq b 0 then (5, 1) else (4, (b : Int)))
  else (bif Nat.beq t 1 then 2 else 3, bif Nat.beq b 0 then 32 else (b : Int))
def regI (i : IV) (m sh amt : Int) : IV := { i with m := m, sh := sh, amt := amt }
def shiX (x : Nat) : IV := bif (dataX x).op == 64 || fd x 15 1 != 0 then noneI 64 x else checkedI (regI (dataX x) (fd x 0 4 : Nat) (shiftG (fd x 4 2) (fd x 12 3 * 4 + fd x 6 2)).1 (shiftG (fd x 4 2) (fd x 12 3 * 4 + fd x 6 2)).2) true x
def immI (i : IV) (v : Int) : IV := { i with imm := v }
def manyF (op : Int) (x : Nat) : Int := (fd x 0 5 : Nat) + 1 - bif op == 33 then ((fd x 12 3 * 4 + fd x 6 2 : Nat) : Int) else 0
def bitX (op : Int) (x : Nat) : IV := bif fd x 26 1 != 0 || fd x 5 1 != 0 then noneI 64 x else
  checkedI (immI (startI op (fd x 8 4 : Nat) (fd x 16 4 : Nat)) ((((fd x 12 3 * 4 + fd x 6 2 : Nat) : Int) + 32 * manyF op x) % 4294967296)) (decide (1 ≤ manyF op x) && decide (((fd x 12 3 * 4 + fd x 6 2 : Nat) : Int) + manyF op x ≤ 32)) x
def plaX (x : Nat) : IV :=
  bif Nat.beq (fd x 20 5) 0 then checkedI (secondI (startI 5 (fd x 8 4 : Nat) (fd x 16 4 : Nat)) (numX x : Nat) 2) true x
  else bif Nat.beq (fd x 20 5) 10 then checkedI (secondI (startI 3 (fd x 8 4 : Nat) (fd x 16 4 : Nat)) (numX x : Nat) 2) true x
  else bif Nat.beq (fd x 20 5) 4 then checkedI (secondI (startI 13 (fd x 8 4 : Nat) 0) (fd x 16 4 * 4096 + numX x : Nat) 2) true x
  else bif Nat.beq (fd x 20 5) 12 then checkedI (immI (startI 30 (fd x 8 4 : Nat) 0) (fd x 16 4 * 4096 + numX x : Nat)) true x
  else bif Nat.beq (fd x 20 5) 20 then bitX 32 x
  else bif Nat.beq (fd x 20 5) 28 then bitX 31 x
  else bif Nat.beq (fd x 20 5) 22 then bitX 33 x
  else noneI 64 x
def memOp (g z : Nat) : Int := bif Nat.beq g 0 then (bif Nat.beq z 0 then 50 else bif Nat.beq z 2 then 51 else bif Nat.beq z 4 then 49 else bif Nat.beq z 1 then 45 else bif Nat.beq z 3 then 46 else bif Nat.beq z 5 then 44 else 64) else bif Nat.beq z 1 then 47 else bif Nat.beq z 3 then 48 else 64
def litX (i : IV) (x : Nat) : IV := bif Nat.beq (fd x 20 1) 0 then noneI 64 x else bif Nat.beq (fd x 23 1) 0 then checkedI (secondI i ((-(fd x 0 12 : Nat) : Int) % 4294967296) 0) (fd x 0 12 != 0) x else checkedI (secondI i (fd x 0 12 : Nat) 0) true x
def memI (i : IV) (m amt : Int) : IV := { i with m := m, amt := amt }
def memX (x : Nat) : IV :=
  bif memOp (fd x 24 1) (fd x 20 3) == 64 then noneI 64 x
  else bif Nat.beq (fd x 16 4) 15 then litX (startI (memOp (fd x 24 1) (fd x 20 3)) (fd x 12 4 : Nat) (fd x 16 4 : Nat)) x
  else bif Nat.beq (fd x 23 1) 0 then (bif Nat.beq (fd x 6 6) 0 then checkedI (memI (startI (memOp (fd x 24 1) (fd x 20 3)) (fd x 12 4 : Nat) (fd x 16 4 : Nat)) (fd x 0 4 : Nat) (fd x 4 2 : Nat)) true x else noneI 64 x)
  else checkedI (secondI (startI (memOp (fd x 24 1) (fd x 20 3)) (fd x 12 4 : Nat) (fd x 16 4 : Nat)) (fd x 0 12 : Nat) 0) true x
def popN (v : Nat) : Nat → Nat
  | 0 => 0
  | k + 1 => popN v k + fd v k 1
def mayL (ldm : Bool) (l n : Nat) (back : Bool) : Bool := !(Nat.beq (fd l 13 1) 1 || (Nat.ble (popN l 16) 1 || (back && Nat.beq (fd l n 1) 1))) && (bif ldm then !(Nat.beq (fd l 14 2) 3) else Nat.beq (fd l 15 1) 0)
def manyI (ldm : Bool) (n l : Int) (back down : Bool) : IV := ⟨bif ldm then 52 else 53, true, false, 14, 0, n, 0, 0, 0, false, 0, 0, l, back, down⟩
def manX (x : Nat) : IV :=
  bif Nat.beq (fd x 22 3) 2 then checkedI (manyI (fd x 20 1 != 0) (fd x 16 4 : Nat) (fd x 0 16 : Nat) (fd x 21 1 != 0) false) (mayL (fd x 20 1 != 0) (fd x 0 16) (fd x 16 4) (fd x 21 1 != 0)) x
  else bif Nat.beq (fd x 22 3) 4 then checkedI (manyI (fd x 20 1 != 0) (fd x 16 4 : Nat) (fd x 0 16 : Nat) (fd x 21 1 != 0) true) (mayL (fd x 20 1 != 0) (fd x 0 16) (fd x 16 4) (fd x 21 1 != 0)) x
  else noneI 64 x
def regOpY (y : Int) : Int := if y = 4194304000 then 17 else if y = 4195352576 then 17 else if y = 4196401152 then 18 else if y = 4197449728 then 18 else if y = 4198498304 then 19 else if y = 4199546880 then 19 else if y = 4200595456 then 20 else if y = 4201644032 then 20 else if y = 4194304128 then 40 else if y = 4195352704 then 42 else if y = 4198498432 then 39 else if y = 4199547008 then 41 else if y = 4203741312 then 36 else if y = 4203741328 then 37 else if y = 4203741344 then 35 else if y = 4203741360 then 38 else if y = 4205838464 then 34 else if y = 4211081216 then 22 else if y = 4211081232 then 23 else if y = 4219469824 then 25 else if y = 4221566976 then 24 else if y = 4223664128 then 27 else if y = 4225761280 then 26 else if y = 4220518640 then 29 else if y = 4222615792 then 28 else 64
def regOp (x : Nat) : Int := regOpY (fd x 20 12 * 1048576 + fd x 4 4 * 16 : Nat)
def r4 (op : Int) (s : Bool) (d n m a : Int) : IV := ⟨op, true, s, 14, d, n, m, a, 0, false, 0, 0, 0, false, false⟩
def unaG (p d n m : Int) (x : Nat) : IV :=
  bif p == 40 || (p == 42 || (p == 39 || p == 41)) then (bif n == 15 then checkedI (r4 p false d 0 m 0) true x else noneI 64 x)
  else checkedI (r4 p false d 0 m 0) (n == m) x
def regG (p d n m a : Int) (s : Bool) (x : Nat) : IV :=
  bif p == 64 then noneI 64 x
  else bif p == 25 || (p == 24 || (p == 27 || p == 26)) then checkedI (r4 p false a n m d) (a != d) x
  else bif p == 22 || p == 23 then (bif p == 22 && a == 15 then checkedI (r4 21 false d n m 0) true x else checkedI (r4 p false d n m a) true x)
  else bif a != 15 then noneI 64 x
  else bif classS p == 3 then unaG p d n m x
  else checkedI (r4 p (classS p == 1 && s) d n m 0) true x
def regX (x : Nat) : IV := regG (regOp x) (fd x 8 4 : Nat) (fd x 16 4 : Nat) (fd x 0 4 : Nat) (fd x 12 4 : Nat) (fd x 20 1 != 0) x
/-- What a word is outside of an IT. -/
def aloX (x : Nat) : IV :=
  bif Nat.beq (fd x 27 5) 30 && Nat.beq (fd x 15 1) 1 then branchI x
  else bif Nat.beq (fd x 25 7) 116 then manX x
  else bif Nat.beq (fd x 25 7) 117 then shiX x
  else bif Nat.beq (fd x 25 7) 120 || Nat.beq (fd x 25 7) 122 then modX x
  else bif Nat.beq (fd x 25 7) 121 || Nat.beq (fd x 25 7) 123 then plaX x
  else bif Nat.beq (fd x 25 7) 124 then memX x
  else bif Nat.beq (fd x 25 7) 125 then regX x
  else noneI 64 x
theorem fdh (h k a s : Nat) (hk : k < 65536) : fd (h * 65536 + k) (16 + a) s = fd h a s := by
  unfold fd
  rw [Nat.pow_add, ← Nat.div_div_eq_div_mul, show (h * 65536 + k) / 2 ^ 16 = h by omega]
theorem fdk (h k a s : Nat) (has : a + s ≤ 16) : fd (h * 65536 + k) a s = fd k a s := by
  unfold fd
  have e : h * 65536 = 2 ^ a * (2 ^ s * (h * 2 ^ (16 - a - s))) := by
    rw [show (65536 : Nat) = 2 ^ a * (2 ^ s * 2 ^ (16 - a - s)) by rw [← Nat.pow_add, ← Nat.pow_add, show a + (s + (16 - a - s)) = 16 by omega]]
    rw [Nat.mul_left_comm h, Nat.mul_left_comm h]
  rw [e, Nat.mul_add_div (Nat.two_pow_pos a), Nat.mul_add_mod]
theorem fd_u16 (h a s : Nat) (hh : h < 65536) (hs : s ≤ 15) (x y : Int) (hx : x = ((h / 2 ^ a : Nat) : Int)) (hy : y = ((2 ^ s - 1 : Nat) : Int)) : bits .and .u16 x y = ((fd h a s : Nat) : Int) := by
  have h2 : 2 ^ s ≤ 2 ^ 15 := Nat.pow_le_pow_right (by decide) hs
  have h3 := Nat.two_pow_pos s
  have : h / 2 ^ a ≤ h := Nat.div_le_self _ _
  rw [hx, hy, (bits_nat .u16 16 (by decide) (fun n h1 h2 => by rw [IntKind.wrap_u16]; omega) _ _ (by omega) (by omega)).1, fd_land]
end Go.Proofs.Ytigmekboikgoaaa
