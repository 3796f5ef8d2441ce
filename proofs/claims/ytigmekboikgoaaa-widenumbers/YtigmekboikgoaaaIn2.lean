/- Stage 7: an instruction as it is handed about; what is asked of its fields. -/
import Derived.Test.YtigmekboikgoaaaIn1
import Derived.Below
namespace Go.Proofs.Ytigmekboikgoaaa
open Go.RowKit
set_option linter.unusedVariables false
set_option linter.unusedSimpArgs false

structure IV where
  op : Int
  wide : Bool
  s : Bool
  cond : Int
  d : Int
  n : Int
  m : Int
  a : Int
  imm : Int
  useImm : Bool
  sh : Int
  amt : Int
  list : Int
  back : Bool
  down : Bool
def IV.cellsA (i : IV) : Array Value := #[.int .i64 i.op, .bool i.wide, .bool i.s, .int .i64 i.cond, .int .i64 i.d, .int .i64 i.n, .int .i64 i.m, .int .i64 i.a, .int .u32 i.imm, .bool i.useImm, .int .i64 i.sh, .int .i64 i.amt, .int .i64 i.list, .bool i.back, .bool i.down]
def IV.val (i : IV) : Value := .agg #[.int .i64 i.op, .bool i.wide, .bool i.s, .int .i64 i.cond, .int .i64 i.d, .int .i64 i.n, .int .i64 i.m, .int .i64 i.a, .int .u32 i.imm, .bool i.useImm, .int .i64 i.sh, .int .i64 i.amt, .int .i64 i.list, .bool i.back, .bool i.down]
def secondS (i : IV) : Int := if i.useImm then 0 else 4
def carriesS (i : IV) : Bool := if i.useImm then i.a == 1 else i.sh != 0
def loadsI (o : Int) : Bool := decide (44 ≤ o ∧ o ≤ 48) || o == 52
def storesI (o : Int) : Bool := decide (49 ≤ o ∧ o ≤ 51) || o == 53
end Go.Proofs.Ytigmekboikgoaaa
