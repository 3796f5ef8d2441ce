/- A run in plain words; the table of reckoners, and a call through it. -/
import Derived.Test.YtjhmmfpmmgebjaaGreatHv8
namespace Go.Proofs.YtjhmmfpmmgebjaaGreat
open Go.ChangeShapes Go.WideShapes Go.ChangeAt Go.RowKit
set_option linter.unusedVariables false
set_option linter.unusedSimpArgs false

structure HEv where
  pc : Int
  ad : Int
  co : Int
structure HSt where
  R : List Int
  E : List HEv
  p : Int
  D : List (List Int)
def noHV : HV := ⟨0, 0, 0, 0, 0, 0⟩
def codeAt (code : List HV) (p : Int) : HV := code.getD p.toNat noHV
def evS (at' : Int) (h : HV) (s : HSt) : HEv := ⟨at' + s.p, addrS h s.R, costS h.op⟩
/-- The state behind an instruction, its error, and whether the run goes on. -/
def actS (Bs : List Reg) (h : HV) (s : HSt) : HSt × Int × Bool :=
  if h.op ≤ 21 then (⟨s.R.set h.d.toNat (reckS h.op (regv s.R h.a) (regv s.R h.b) (regv s.R h.c) h.im), s.E, s.p + 1, s.D⟩, 0, true)
  else if h.op ≤ 24 then (if ldErr Bs h s.R = 0 then (⟨s.R.set h.d.toNat (ldGot Bs s.D h s.R), s.E, s.p + 1, s.D⟩, 0, true) else (s, ldErr Bs h s.R, false))
  else if h.op ≤ 27 then (if stErr Bs h s.R = 0 then (⟨s.R, s.E, s.p + 1, stDat Bs s.D h s.R⟩, 0, true) else (⟨s.R, s.E, s.p, stDat Bs s.D h s.R⟩, stErr Bs h s.R, false))
  else if h.op = 28 then (⟨s.R, s.E, s.p + wrap32 h.im, s.D⟩, 0, true)
  else if h.op = 29 then (⟨s.R, s.E, if regv s.R h.a = 0 then s.p + wrap32 h.im else s.p + 1, s.D⟩, 0, true)
  else if h.op = 31 then (s, h.im, false) else (s, 0, false)
def stepS (at' : Int) (Bs : List Reg) (h : HV) (s : HSt) : HSt × Int × Bool := actS Bs h ⟨s.R, s.E ++ [evS at' h s], s.p, s.D⟩
def runS (at' : Int) (Bs : List Reg) (code : List HV) : Nat → HSt → HSt × Int
  | 0, s => if okPc code s.p then (s, 35) else (s, 31)
  | k + 1, s => if okPc code s.p then (if (stepS at' Bs (codeAt code s.p) s).2.2 then runS at' Bs code k (stepS at' Bs (codeAt code s.p) s).1 else ((stepS at' Bs (codeAt code s.p) s).1, (stepS at' Bs (codeAt code s.p) s).2.1)) else (s, 31)

theorem ite_ok {c : Prop} [Decidable c] {x y : Int} (hx : okU x) (hy : okU y) : okU (if c then x else y) := by split <;> assumption
theorem mod_ok (x : Int) : okU (x % 4294967296) := ⟨Int.emod_nonneg _ (by decide), Int.emod_lt_of_pos _ (by decide)⟩
theorem reckS_ok {o a b c im : Int} (ha : okU a) (hb : okU b) (hc : okU c) (hi : okU im) : okU (reckS o a b c im) := by
  have s1 := fun k => shiftS_bounds a k (b % 32) false ha.1 ha.2
  have c1 := clzS_bounds a ha.1 ha.2
  have z0 : okU 0 := ⟨by decide, by decide⟩
  have z1 : okU 1 := ⟨by decide, by decide⟩
  exact ite_ok hi <| ite_ok ha <| ite_ok (mod_ok _) <| ite_ok (mod_ok _) <| ite_ok (bits_u32_bounds .and a b) <| ite_ok (bits_u32_bounds .or a b) <| ite_ok (bits_u32_bounds .xor a b) <| ite_ok (s1 1) <| ite_ok (s1 2) <| ite_ok (s1 3) <| ite_ok (s1 4) <|
    ite_ok (mod_ok _) <| ite_ok (mod_ok _) <| ite_ok (mod_ok _) <| ite_ok (divuS_bounds a b ha.1 ha.2 hb.1) <| ite_ok (divsS_bounds a b) <| ite_ok ⟨c1.1, by omega⟩ <| ite_ok (ite_ok z1 z0) <| ite_ok (ite_ok z1 z0) <| ite_ok (ite_ok z1 z0) <| ite_ok ha hb
theorem numS_u32 {l : List Int} (h : okB l) (hn : l.length ≤ 4) : okU (numS l) := by
  have hb := numS_bounds h
  have : l.length = 0 ∨ l.length = 1 ∨ l.length = 2 ∨ l.length = 3 ∨ l.length = 4 := by omega
  unfold okU
  rcases this with e | e | e | e | e <;> rw [e] at hb <;> simp at hb <;> omega
theorem got_ok {w : World} {p l0 lo hi : Nat} {Bs : List Reg} {G D : List (List Int)} {q : Nat → Nat} (h : MemAt w p l0 lo hi Bs G D q) (a s : Int) : okU (gotS Bs D a s) := by
  unfold gotS
  split
  · unfold loadS
    split
    · rename_i i _
      refine numS_u32 ?_ ?_
      · intro x hx
        have hx' := List.mem_of_mem_drop (List.mem_of_mem_take hx)
        obtain ⟨A, nb, c, _, _, _, n4⟩ := h.now
        cases hd : D[i]? with
        | none => simp [List.getD, hd] at hx'
        | some d =>
          have hi : i < Bs.length := by
            have := (List.getElem?_eq_some_iff.1 hd).1
            rw [h.len] at this
            exact this
          have hr : Bs[i]? = some Bs[i] := List.getElem?_eq_getElem hi
          have hd' : D.getD i [] = d := by simp [List.getD, hd]
          rw [hd'] at hx'
          exact (n4 i d _ hd hr).1 x hx'
      · have := widthS_cases s
        simp only [List.length_take, List.length_drop]
        omega
    · exact ⟨by decide, by decide⟩
  · exact ⟨by decide, by decide⟩

/-! ### The table -/
def tabC : List Value := [.nilFunc, .func (.func 40) #[] #[], .func (.func 41) #[] #[], .func (.func 42) #[] #[], .func (.func 43) #[] #[], .func (.func 44) #[] #[], .func (.func 45) #[] #[], .func (.func 46) #[] #[], .func (.func 47) #[] #[], .func (.func 49) #[] #[], .func (.func 50) #[] #[], .func (.func 51) #[] #[], .func (.func 52) #[] #[], .func (.func 53) #[] #[], .func (.func 55) #[] #[], .func (.func 56) #[] #[], .func (.func 58) #[] #[], .func (.func 60) #[] #[], .func (.func 62) #[] #[], .func (.func 64) #[] #[], .func (.func 65) #[] #[], .func (.func 66) #[] #[], .nilFunc, .nilFunc, .nilFunc, .nilFunc, .nilFunc, .nilFunc, .nilFunc, .nilFunc, .nilFunc, .nilFunc]
theorem szTab : (Tryz.prog.info? 72).map (·.size) = some 32 := by kernel_rfl
theorem zeroTab : (Tryz.prog.info? 72).map (fun i => i.zero) = some (some (Cel.any (List.replicate 32 .nilFunc)).val) := by kernel_rfl
theorem one_tab : ∀ u ∈ (Cel.any tabC).cells, u.oneCell' = true := by decide
set_option maxHeartbeats 1000000 in
set_option maxRecDepth 100000 in
theorem reckoners_c (w : World) : Calls Tryz.prog 20 #[] w fun e w' => e = .returned (Cel.any tabC).val ∧ Below w.heap.size w w' := by
  have S := SH.start w
  go_enter Tryz.func20, Tryz.ntmps20
  go_wp2_with (first
    | (refine S.alloc rfl 72 rfl _ zeroTab ?_; clear S; intro b2 w S)
    | (refine S.storeAll rfl 72 _ _ rfl _ (Cel.any tabC) rfl rfl 0 _ rfl rfl one_tab szTab ?_; clear S; intro w S; simp only [List.set_cons_zero, List.set_cons_succ] at S))
  refine bodyPost_ret (S.results rfl _ _ rfl 0 _ rfl _ Tryz.underlying72 rfl szTab) rfl ?_
  exact ⟨rfl, S.low⟩
theorem rk_call1 (h : HV) (R : List Int) (ho : HOk h) (hR : okR R) (a : Act) (w : World) (K : Act → World → Prop) (Q : Exit → Act → World → Prop) (h1 : a.eval (.tmp 67) = .func (.func 40) #[] #[]) (h2 : a.eval (.tmp 68) = (Cel.host h).val) (h3 : a.eval (.tmp 70) = (Cel.regs R).val)
    (hK : ∀ w', Below w.heap.size w w' → K (a.put (some 71) (.int .u32 (reckS 1 (regv R h.a) (regv R h.b) (regv R h.c) h.im))) w') : Oper.wp Tryz.prog { dst := some 71, op := Op.call { callee := Callee.value (Operand.tmp 67), args := #[Operand.tmp 68, Operand.tmp 70], argTypes := #[31, 27] }, type := 26, pos := "hvm.go:38", after := #[{ on := 3, ground := Ground.data }, { on := 4, ground := Ground.data }, { on := 6, ground := Ground.data }], guard := none } a w K Q := by
  unfold Oper.wp execOp
  simp only [h1, h2, h3, resolve, invoke, Sem.run_bind, Sem.run_pure, Result.andThen_ok, List.map_toArray, List.map_cons, List.map_nil]
  go_simp
  refine (rk1_c h R ho hR _).mono ?_
  rintro e w' ⟨rfl, hb⟩
  exact hK w' hb
theorem rk_call2 (h : HV) (R : List Int) (ho : HOk h) (hR : okR R) (a : Act) (w : World) (K : Act → World → Prop) (Q : Exit → Act → World → Prop) (h1 : a.eval (.tmp 67) = .func (.func 41) #[] #[]) (h2 : a.eval (.tmp 68) = (Cel.host h).val) (h3 : a.eval (.tmp 70) = (Cel.regs R).val)
    (hK : ∀ w', Below w.heap.size w w' → K (a.put (some 71) (.int .u32 (reckS 2 (regv R h.a) (regv R h.b) (regv R h.c) h.im))) w') : Oper.wp Tryz.prog { dst := some 71, op := Op.call { callee := Callee.value (Operand.tmp 67), args := #[Operand.tmp 68, Operand.tmp 70], argTypes := #[31, 27] }, type := 26, pos := "hvm.go:38", after := #[{ on := 3, ground := Ground.data }, { on := 4, ground := Ground.data }, { on := 6, ground := Ground.data }], guard := none } a w K Q := by
  unfold Oper.wp execOp
  simp only [h1, h2, h3, resolve, invoke, Sem.run_bind, Sem.run_pure, Result.andThen_ok, List.map_toArray, List.map_cons, List.map_nil]
  go_simp
  refine (rk2_c h R ho hR _).mono ?_
  rintro e w' ⟨rfl, hb⟩
  exact hK w' hb
theorem rk_call3 (h : HV) (R : List Int) (ho : HOk h) (hR : okR R) (a : Act) (w : World) (K : Act → World → Prop) (Q : Exit → Act → World → Prop) (h1 : a.eval (.tmp 67) = .func (.func 42) #[] #[]) (h2 : a.eval (.tmp 68) = (Cel.host h).val) (h3 : a.eval (.tmp 70) = (Cel.regs R).val)
    (hK : ∀ w', Below w.heap.size w w' → K (a.put (some 71) (.int .u32 (reckS 3 (regv R h.a) (regv R h.b) (regv R h.c) h.im))) w') : Oper.wp Tryz.prog { dst := some 71, op := Op.call { callee := Callee.value (Operand.tmp 67), args := #[Operand.tmp 68, Operand.tmp 70], argTypes := #[31, 27] }, type := 26, pos := "hvm.go:38", after := #[{ on := 3, ground := Ground.data }, { on := 4, ground := Ground.data }, { on := 6, ground := Ground.data }], guard := none } a w K Q := by
  unfold Oper.wp execOp
  simp only [h1, h2, h3, resolve, invoke, Sem.run_bind, Sem.run_pure, Result.andThen_ok, List.map_toArray, List.map_cons, List.map_nil]
  go_simp
  refine (rk3_c h R ho hR _).mono ?_
  rintro e w' ⟨rfl, hb⟩
  exact hK w' hb
theorem rk_call4 (h : HV) (R : List Int) (ho : HOk h) (hR : okR R) (a : Act) (w : World) (K : Act → World → Prop) (Q : Exit → Act → World → Prop) (h1 : a.eval (.tmp 67) = .func (.func 43) #[] #[]) (h2 : a.eval (.tmp 68) = (Cel.host h).val) (h3 : a.eval (.tmp 70) = (Cel.regs R).val)
    (hK : ∀ w', Below w.heap.size w w' → K (a.put (some 71) (.int .u32 (reckS 4 (regv R h.a) (regv R h.b) (regv R h.c) h.im))) w') : Oper.wp Tryz.prog { dst := some 71, op := Op.call { callee := Callee.value (Operand.tmp 67), args := #[Operand.tmp 68, Operand.tmp 70], argTypes := #[31, 27] }, type := 26, pos := "hvm.go:38", after := #[{ on := 3, ground := Ground.data }, { on := 4, ground := Ground.data }, { on := 6, ground := Ground.data }], guard := none } a w K Q := by
  unfold Oper.wp execOp
  simp only [h1, h2, h3, resolve, invoke, Sem.run_bind, Sem.run_pure, Result.andThen_ok, List.map_toArray, List.map_cons, List.map_nil]
  go_simp
  refine (rk4_c h R ho hR _).mono ?_
  rintro e w' ⟨rfl, hb⟩
  exact hK w' hb
theorem rk_call5 (h : HV) (R : List Int) (ho : HOk h) (hR : okR R) (a : Act) (w : World) (K : Act → World → Prop) (Q : Exit → Act → World → Prop) (h1 : a.eval (.tmp 67) = .func (.func 44) #[] #[]) (h2 : a.eval (.tmp 68) = (Cel.host h).val) (h3 : a.eval (.tmp 70) = (Cel.regs R).val)
    (hK : ∀ w', Below w.heap.size w w' → K (a.put (some 71) (.int .u32 (reckS 5 (regv R h.a) (regv R h.b) (regv R h.c) h.im))) w') : Oper.wp Tryz.prog { dst := some 71, op := Op.call { callee := Callee.value (Operand.tmp 67), args := #[Operand.tmp 68, Operand.tmp 70], argTypes := #[31, 27] }, type := 26, pos := "hvm.go:38", after := #[{ on := 3, ground := Ground.data }, { on := 4, ground := Ground.data }, { on := 6, ground := Ground.data }], guard := none } a w K Q := by
  unfold Oper.wp execOp
  simp only [h1, h2, h3, resolve, invoke, Sem.run_bind, Sem.run_pure, Result.andThen_ok, List.map_toArray, List.map_cons, List.map_nil]
  go_simp
  refine (rk5_c h R ho hR _).mono ?_
  rintro e w' ⟨rfl, hb⟩
  exact hK w' hb
theorem rk_call6 (h : HV) (R : List Int) (ho : HOk h) (hR : okR R) (a : Act) (w : World) (K : Act → World → Prop) (Q : Exit → Act → World → Prop) (h1 : a.eval (.tmp 67) = .func (.func 45) #[] #[]) (h2 : a.eval (.tmp 68) = (Cel.host h).val) (h3 : a.eval (.tmp 70) = (Cel.regs R).val)
    (hK : ∀ w', Below w.heap.size w w' → K (a.put (some 71) (.int .u32 (reckS 6 (regv R h.a) (regv R h.b) (regv R h.c) h.im))) w') : Oper.wp Tryz.prog { dst := some 71, op := Op.call { callee := Callee.value (Operand.tmp 67), args := #[Operand.tmp 68, Operand.tmp 70], argTypes := #[31, 27] }, type := 26, pos := "hvm.go:38", after := #[{ on := 3, ground := Ground.data }, { on := 4, ground := Ground.data }, { on := 6, ground := Ground.data }], guard := none } a w K Q := by
  unfold Oper.wp execOp
  simp only [h1, h2, h3, resolve, invoke, Sem.run_bind, Sem.run_pure, Result.andThen_ok, List.map_toArray, List.map_cons, List.map_nil]
  go_simp
  refine (rk6_c h R ho hR _).mono ?_
  rintro e w' ⟨rfl, hb⟩
  exact hK w' hb
theorem rk_call7 (h : HV) (R : List Int) (ho : HOk h) (hR : okR R) (a : Act) (w : World) (K : Act → World → Prop) (Q : Exit → Act → World → Prop) (h1 : a.eval (.tmp 67) = .func (.func 46) #[] #[]) (h2 : a.eval (.tmp 68) = (Cel.host h).val) (h3 : a.eval (.tmp 70) = (Cel.regs R).val)
    (hK : ∀ w', Below w.heap.size w w' → K (a.put (some 71) (.int .u32 (reckS 7 (regv R h.a) (regv R h.b) (regv R h.c) h.im))) w') : Oper.wp Tryz.prog { dst := some 71, op := Op.call { callee := Callee.value (Operand.tmp 67), args := #[Operand.tmp 68, Operand.tmp 70], argTypes := #[31, 27] }, type := 26, pos := "hvm.go:38", after := #[{ on := 3, ground := Ground.data }, { on := 4, ground := Ground.data }, { on := 6, ground := Ground.data }], guard := none } a w K Q := by
  unfold Oper.wp execOp
  simp only [h1, h2, h3, resolve, invoke, Sem.run_bind, Sem.run_pure, Result.andThen_ok, List.map_toArray, List.map_cons, List.map_nil]
  go_simp
  refine (rk7_c h R ho hR _).mono ?_
  rintro e w' ⟨rfl, hb⟩
  exact hK w' hb
theorem rk_call8 (h : HV) (R : List Int) (ho : HOk h) (hR : okR R) (a : Act) (w : World) (K : Act → World → Prop) (Q : Exit → Act → World → Prop) (h1 : a.eval (.tmp 67) = .func (.func 47) #[] #[]) (h2 : a.eval (.tmp 68) = (Cel.host h).val) (h3 : a.eval (.tmp 70) = (Cel.regs R).val)
    (hK : ∀ w', Below w.heap.size w w' → K (a.put (some 71) (.int .u32 (reckS 8 (regv R h.a) (regv R h.b) (regv R h.c) h.im))) w') : Oper.wp Tryz.prog { dst := some 71, op := Op.call { callee := Callee.value (Operand.tmp 67), args := #[Operand.tmp 68, Operand.tmp 70], argTypes := #[31, 27] }, type := 26, pos := "hvm.go:38", after := #[{ on := 3, ground := Ground.data }, { on := 4, ground := Ground.data }, { on := 6, ground := Ground.data }], guard := none } a w K Q := by
  unfold Oper.wp execOp
  simp only [h1, h2, h3, resolve, invoke, Sem.run_bind, Sem.run_pure, Result.andThen_ok, List.map_toArray, List.map_cons, List.map_nil]
  go_simp
  refine (rk8_c h R ho hR _).mono ?_
  rintro e w' ⟨rfl, hb⟩
  exact hK w' hb
theorem rk_call9 (h : HV) (R : List Int) (ho : HOk h) (hR : okR R) (a : Act) (w : World) (K : Act → World → Prop) (Q : Exit → Act → World → Prop) (h1 : a.eval (.tmp 67) = .func (.func 49) #[] #[]) (h2 : a.eval (.tmp 68) = (Cel.host h).val) (h3 : a.eval (.tmp 70) = (Cel.regs R).val)
    (hK : ∀ w', Below w.heap.size w w' → K (a.put (some 71) (.int .u32 (reckS 9 (regv R h.a) (regv R h.b) (regv R h.c) h.im))) w') : Oper.wp Tryz.prog { dst := some 71, op := Op.call { callee := Callee.value (Operand.tmp 67), args := #[Operand.tmp 68, Operand.tmp 70], argTypes := #[31, 27] }, type := 26, pos := "hvm.go:38", after := #[{ on := 3, ground := Ground.data }, { on := 4, ground := Ground.data }, { on := 6, ground := Ground.data }], guard := none } a w K Q := by
  unfold Oper.wp execOp
  simp only [h1, h2, h3, resolve, invoke, Sem.run_bind, Sem.run_pure, Result.andThen_ok, List.map_toArray, List.map_cons, List.map_nil]
  go_simp
  refine (rk9_c h R ho hR _).mono ?_
  rintro e w' ⟨rfl, hb⟩
  exact hK w' hb
theorem rk_call10 (h : HV) (R : List Int) (ho : HOk h) (hR : okR R) (a : Act) (w : World) (K : Act → World → Prop) (Q : Exit → Act → World → Prop) (h1 : a.eval (.tmp 67) = .func (.func 50) #[] #[]) (h2 : a.eval (.tmp 68) = (Cel.host h).val) (h3 : a.eval (.tmp 70) = (Cel.regs R).val)
    (hK : ∀ w', Below w.heap.size w w' → K (a.put (some 71) (.int .u32 (reckS 10 (regv R h.a) (regv R h.b) (regv R h.c) h.im))) w') : Oper.wp Tryz.prog { dst := some 71, op := Op.call { callee := Callee.value (Operand.tmp 67), args := #[Operand.tmp 68, Operand.tmp 70], argTypes := #[31, 27] }, type := 26, pos := "hvm.go:38", after := #[{ on := 3, ground := Ground.data }, { on := 4, ground := Ground.data }, { on := 6, ground := Ground.data }], guard := none } a w K Q := by
  unfold Oper.wp execOp
  simp only [h1, h2, h3, resolve, invoke, Sem.run_bind, Sem.run_pure, Result.andThen_ok, List.map_toArray, List.map_cons, List.map_nil]
  go_simp
  refine (rk10_c h R ho hR _).mono ?_
  rintro e w' ⟨rfl, hb⟩
  exact hK w' hb
theorem rk_call11 (h : HV) (R : List Int) (ho : HOk h) (hR : okR R) (a : Act) (w : World) (K : Act → World → Prop) (Q : Exit → Act → World → Prop) (h1 : a.eval (.tmp 67) = .func (.func 51) #[] #[]) (h2 : a.eval (.tmp 68) = (Cel.host h).val) (h3 : a.eval (.tmp 70) = (Cel.regs R).val)
    (hK : ∀ w', Below w.heap.size w w' → K (a.put (some 71) (.int .u32 (reckS 11 (regv R h.a) (regv R h.b) (regv R h.c) h.im))) w') : Oper.wp Tryz.prog { dst := some 71, op := Op.call { callee := Callee.value (Operand.tmp 67), args := #[Operand.tmp 68, Operand.tmp 70], argTypes := #[31, 27] }, type := 26, pos := "hvm.go:38", after := #[{ on := 3, ground := Ground.data }, { on := 4, ground := Ground.data }, { on := 6, ground := Ground.data }], guard := none } a w K Q := by
  unfold Oper.wp execOp
  simp only [h1, h2, h3, resolve, invoke, Sem.run_bind, Sem.run_pure, Result.andThen_ok, List.map_toArray, List.map_cons, List.map_nil]
  go_simp
  refine (rk11_c h R ho hR _).mono ?_
  rintro e w' ⟨rfl, hb⟩
  exact hK w' hb
theorem rk_call12 (h : HV) (R : List Int) (ho : HOk h) (hR : okR R) (a : Act) (w : World) (K : Act → World → Prop) (Q : Exit → Act → World → Prop) (h1 : a.eval (.tmp 67) = .func (.func 52) #[] #[]) (h2 : a.eval (.tmp 68) = (Cel.host h).val) (h3 : a.eval (.tmp 70) = (Cel.regs R).val)
    (hK : ∀ w', Below w.heap.size w w' → K (a.put (some 71) (.int .u32 (reckS 12 (regv R h.a) (regv R h.b) (regv R h.c) h.im))) w') : Oper.wp Tryz.prog { dst := some 71, op := Op.call { callee := Callee.value (Operand.tmp 67), args := #[Operand.tmp 68, Operand.tmp 70], argTypes := #[31, 27] }, type := 26, pos := "hvm.go:38", after := #[{ on := 3, ground := Ground.data }, { on := 4, ground := Ground.data }, { on := 6, ground := Ground.data }], guard := none } a w K Q := by
  unfold Oper.wp execOp
  simp only [h1, h2, h3, resolve, invoke, Sem.run_bind, Sem.run_pure, Result.andThen_ok, List.map_toArray, List.map_cons, List.map_nil]
  go_simp
  refine (rk12_c h R ho hR _).mono ?_
  rintro e w' ⟨rfl, hb⟩
  exact hK w' hb
theorem rk_call13 (h : HV) (R : List Int) (ho : HOk h) (hR : okR R) (a : Act) (w : World) (K : Act → World → Prop) (Q : Exit → Act → World → Prop) (h1 : a.eval (.tmp 67) = .func (.func 53) #[] #[]) (h2 : a.eval (.tmp 68) = (Cel.host h).val) (h3 : a.eval (.tmp 70) = (Cel.regs R).val)
    (hK : ∀ w', Below w.heap.size w w' → K (a.put (some 71) (.int .u32 (reckS 13 (regv R h.a) (regv R h.b) (regv R h.c) h.im))) w') : Oper.wp Tryz.prog { dst := some 71, op := Op.call { callee := Callee.value (Operand.tmp 67), args := #[Operand.tmp 68, Operand.tmp 70], argTypes := #[31, 27] }, type := 26, pos := "hvm.go:38", after := #[{ on := 3, ground := Ground.data }, { on := 4, ground := Ground.data }, { on := 6, ground := Ground.data }], guard := none } a w K Q := by
  unfold Oper.wp execOp
  simp only [h1, h2, h3, resolve, invoke, Sem.run_bind, Sem.run_pure, Result.andThen_ok, List.map_toArray, List.map_cons, List.map_nil]
  go_simp
  refine (rk13_c h R ho hR _).mono ?_
  rintro e w' ⟨rfl, hb⟩
  exact hK w' hb
theorem rk_call14 (h : HV) (R : List Int) (ho : HOk h) (hR : okR R) (a : Act) (w : World) (K : Act → World → Prop) (Q : Exit → Act → World → Prop) (h1 : a.eval (.tmp 67) = .func (.func 55) #[] #[]) (h2 : a.eval (.tmp 68) = (Cel.host h).val) (h3 : a.eval (.tmp 70) = (Cel.regs R).val)
    (hK : ∀ w', Below w.heap.size w w' → K (a.put (some 71) (.int .u32 (reckS 14 (regv R h.a) (regv R h.b) (regv R h.c) h.im))) w') : Oper.wp Tryz.prog { dst := some 71, op := Op.call { callee := Callee.value (Operand.tmp 67), args := #[Operand.tmp 68, Operand.tmp 70], argTypes := #[31, 27] }, type := 26, pos := "hvm.go:38", after := #[{ on := 3, ground := Ground.data }, { on := 4, ground := Ground.data }, { on := 6, ground := Ground.data }], guard := none } a w K Q := by
  unfold Oper.wp execOp
  simp only [h1, h2, h3, resolve, invoke, Sem.run_bind, Sem.run_pure, Result.andThen_ok, List.map_toArray, List.map_cons, List.map_nil]
  go_simp
  refine (rk14_c h R ho hR _).mono ?_
  rintro e w' ⟨rfl, hb⟩
  exact hK w' hb
theorem rk_call15 (h : HV) (R : List Int) (ho : HOk h) (hR : okR R) (a : Act) (w : World) (K : Act → World → Prop) (Q : Exit → Act → World → Prop) (h1 : a.eval (.tmp 67) = .func (.func 56) #[] #[]) (h2 : a.eval (.tmp 68) = (Cel.host h).val) (h3 : a.eval (.tmp 70) = (Cel.regs R).val)
    (hK : ∀ w', Below w.heap.size w w' → K (a.put (some 71) (.int .u32 (reckS 15 (regv R h.a) (regv R h.b) (regv R h.c) h.im))) w') : Oper.wp Tryz.prog { dst := some 71, op := Op.call { callee := Callee.value (Operand.tmp 67), args := #[Operand.tmp 68, Operand.tmp 70], argTypes := #[31, 27] }, type := 26, pos := "hvm.go:38", after := #[{ on := 3, ground := Ground.data }, { on := 4, ground := Ground.data }, { on := 6, ground := Ground.data }], guard := none } a w K Q := by
  unfold Oper.wp execOp
  simp only [h1, h2, h3, resolve, invoke, Sem.run_bind, Sem.run_pure, Result.andThen_ok, List.map_toArray, List.map_cons, List.map_nil]
  go_simp
  refine (rk15_c h R ho hR _).mono ?_
  rintro e w' ⟨rfl, hb⟩
  exact hK w' hb
theorem rk_call16 (h : HV) (R : List Int) (ho : HOk h) (hR : okR R) (a : Act) (w : World) (K : Act → World → Prop) (Q : Exit → Act → World → Prop) (h1 : a.eval (.tmp 67) = .func (.func 58) #[] #[]) (h2 : a.eval (.tmp 68) = (Cel.host h).val) (h3 : a.eval (.tmp 70) = (Cel.regs R).val)
    (hK : ∀ w', Below w.heap.size w w' → K (a.put (some 71) (.int .u32 (reckS 16 (regv R h.a) (regv R h.b) (regv R h.c) h.im))) w') : Oper.wp Tryz.prog { dst := some 71, op := Op.call { callee := Callee.value (Operand.tmp 67), args := #[Operand.tmp 68, Operand.tmp 70], argTypes := #[31, 27] }, type := 26, pos := "hvm.go:38", after := #[{ on := 3, ground := Ground.data }, { on := 4, ground := Ground.data }, { on := 6, ground := Ground.data }], guard := none } a w K Q := by
  unfold Oper.wp execOp
  simp only [h1, h2, h3, resolve, invoke, Sem.run_bind, Sem.run_pure, Result.andThen_ok, List.map_toArray, List.map_cons, List.map_nil]
  go_simp
  refine (rk16_c h R ho hR _).mono ?_
  rintro e w' ⟨rfl, hb⟩
  exact hK w' hb
theorem rk_call17 (h : HV) (R : List Int) (ho : HOk h) (hR : okR R) (a : Act) (w : World) (K : Act → World → Prop) (Q : Exit → Act → World → Prop) (h1 : a.eval (.tmp 67) = .func (.func 60) #[] #[]) (h2 : a.eval (.tmp 68) = (Cel.host h).val) (h3 : a.eval (.tmp 70) = (Cel.regs R).val)
    (hK : ∀ w', Below w.heap.size w w' → K (a.put (some 71) (.int .u32 (reckS 17 (regv R h.a) (regv R h.b) (regv R h.c) h.im))) w') : Oper.wp Tryz.prog { dst := some 71, op := Op.call { callee := Callee.value (Operand.tmp 67), args := #[Operand.tmp 68, Operand.tmp 70], argTypes := #[31, 27] }, type := 26, pos := "hvm.go:38", after := #[{ on := 3, ground := Ground.data }, { on := 4, ground := Ground.data }, { on := 6, ground := Ground.data }], guard := none } a w K Q := by
  unfold Oper.wp execOp
  simp only [h1, h2, h3, resolve, invoke, Sem.run_bind, Sem.run_pure, Result.andThen_ok, List.map_toArray, List.map_cons, List.map_nil]
  go_simp
  refine (rk17_c h R ho hR _).mono ?_
  rintro e w' ⟨rfl, hb⟩
  exact hK w' hb
theorem rk_call18 (h : HV) (R : List Int) (ho : HOk h) (hR : okR R) (a : Act) (w : World) (K : Act → World → Prop) (Q : Exit → Act → World → Prop) (h1 : a.eval (.tmp 67) = .func (.func 62) #[] #[]) (h2 : a.eval (.tmp 68) = (Cel.host h).val) (h3 : a.eval (.tmp 70) = (Cel.regs R).val)
    (hK : ∀ w', Below w.heap.size w w' → K (a.put (some 71) (.int .u32 (reckS 18 (regv R h.a) (regv R h.b) (regv R h.c) h.im))) w') : Oper.wp Tryz.prog { dst := some 71, op := Op.call { callee := Callee.value (Operand.tmp 67), args := #[Operand.tmp 68, Operand.tmp 70], argTypes := #[31, 27] }, type := 26, pos := "hvm.go:38", after := #[{ on := 3, ground := Ground.data }, { on := 4, ground := Ground.data }, { on := 6, ground := Ground.data }], guard := none } a w K Q := by
  unfold Oper.wp execOp
  simp only [h1, h2, h3, resolve, invoke, Sem.run_bind, Sem.run_pure, Result.andThen_ok, List.map_toArray, List.map_cons, List.map_nil]
  go_simp
  refine (rk18_c h R ho hR _).mono ?_
  rintro e w' ⟨rfl, hb⟩
  exact hK w' hb
theorem rk_call19 (h : HV) (R : List Int) (ho : HOk h) (hR : okR R) (a : Act) (w : World) (K : Act → World → Prop) (Q : Exit → Act → World → Prop) (h1 : a.eval (.tmp 67) = .func (.func 64) #[] #[]) (h2 : a.eval (.tmp 68) = (Cel.host h).val) (h3 : a.eval (.tmp 70) = (Cel.regs R).val)
    (hK : ∀ w', Below w.heap.size w w' → K (a.put (some 71) (.int .u32 (reckS 19 (regv R h.a) (regv R h.b) (regv R h.c) h.im))) w') : Oper.wp Tryz.prog { dst := some 71, op := Op.call { callee := Callee.value (Operand.tmp 67), args := #[Operand.tmp 68, Operand.tmp 70], argTypes := #[31, 27] }, type := 26, pos := "hvm.go:38", after := #[{ on := 3, ground := Ground.data }, { on := 4, ground := Ground.data }, { on := 6, ground := Ground.data }], guard := none } a w K Q := by
  unfold Oper.wp execOp
  simp only [h1, h2, h3, resolve, invoke, Sem.run_bind, Sem.run_pure, Result.andThen_ok, List.map_toArray, List.map_cons, List.map_nil]
  go_simp
  refine (rk19_c h R ho hR _).mono ?_
  rintro e w' ⟨rfl, hb⟩
  exact hK w' hb
theorem rk_call20 (h : HV) (R : List Int) (ho : HOk h) (hR : okR R) (a : Act) (w : World) (K : Act → World → Prop) (Q : Exit → Act → World → Prop) (h1 : a.eval (.tmp 67) = .func (.func 65) #[] #[]) (h2 : a.eval (.tmp 68) = (Cel.host h).val) (h3 : a.eval (.tmp 70) = (Cel.regs R).val)
    (hK : ∀ w', Below w.heap.size w w' → K (a.put (some 71) (.int .u32 (reckS 20 (regv R h.a) (regv R h.b) (regv R h.c) h.im))) w') : Oper.wp Tryz.prog { dst := some 71, op := Op.call { callee := Callee.value (Operand.tmp 67), args := #[Operand.tmp 68, Operand.tmp 70], argTypes := #[31, 27] }, type := 26, pos := "hvm.go:38", after := #[{ on := 3, ground := Ground.data }, { on := 4, ground := Ground.data }, { on := 6, ground := Ground.data }], guard := none } a w K Q := by
  unfold Oper.wp execOp
  simp only [h1, h2, h3, resolve, invoke, Sem.run_bind, Sem.run_pure, Result.andThen_ok, List.map_toArray, List.map_cons, List.map_nil]
  go_simp
  refine (rk20_c h R ho hR _).mono ?_
  rintro e w' ⟨rfl, hb⟩
  exact hK w' hb
theorem rk_call21 (h : HV) (R : List Int) (ho : HOk h) (hR : okR R) (a : Act) (w : World) (K : Act → World → Prop) (Q : Exit → Act → World → Prop) (h1 : a.eval (.tmp 67) = .func (.func 66) #[] #[]) (h2 : a.eval (.tmp 68) = (Cel.host h).val) (h3 : a.eval (.tmp 70) = (Cel.regs R).val)
    (hK : ∀ w', Below w.heap.size w w' → K (a.put (some 71) (.int .u32 (reckS 21 (regv R h.a) (regv R h.b) (regv R h.c) h.im))) w') : Oper.wp Tryz.prog { dst := some 71, op := Op.call { callee := Callee.value (Operand.tmp 67), args := #[Operand.tmp 68, Operand.tmp 70], argTypes := #[31, 27] }, type := 26, pos := "hvm.go:38", after := #[{ on := 3, ground := Ground.data }, { on := 4, ground := Ground.data }, { on := 6, ground := Ground.data }], guard := none } a w K Q := by
  unfold Oper.wp execOp
  simp only [h1, h2, h3, resolve, invoke, Sem.run_bind, Sem.run_pure, Result.andThen_ok, List.map_toArray, List.map_cons, List.map_nil]
  go_simp
  refine (rk21_c h R ho hR _).mono ?_
  rintro e w' ⟨rfl, hb⟩
  exact hK w' hb
/-- A call through the table. -/
theorem rk_call (h : HV) (R : List Int) (ho : HOk h) (hR : okR R) (o1 : 1 ≤ h.op) (o2 : h.op ≤ 21) : ∃ f, tabC[h.op.toNat]? = some (.func (.func f) #[] #[]) ∧ ∀ (a : Act) (w : World) (K : Act → World → Prop) (Q : Exit → Act → World → Prop), a.eval (.tmp 67) = .func (.func f) #[] #[] → a.eval (.tmp 68) = (Cel.host h).val → a.eval (.tmp 70) = (Cel.regs R).val →
    (∀ w', Below w.heap.size w w' → K (a.put (some 71) (.int .u32 (reckS h.op (regv R h.a) (regv R h.b) (regv R h.c) h.im))) w') → Oper.wp Tryz.prog { dst := some 71, op := Op.call { callee := Callee.value (Operand.tmp 67), args := #[Operand.tmp 68, Operand.tmp 70], argTypes := #[31, 27] }, type := 26, pos := "hvm.go:38", after := #[{ on := 3, ground := Ground.data }, { on := 4, ground := Ground.data }, { on := 6, ground := Ground.data }], guard := none } a w K Q := by
  have hc : h.op = 1 ∨ h.op = 2 ∨ h.op = 3 ∨ h.op = 4 ∨ h.op = 5 ∨ h.op = 6 ∨ h.op = 7 ∨ h.op = 8 ∨ h.op = 9 ∨ h.op = 10 ∨ h.op = 11 ∨ h.op = 12 ∨ h.op = 13 ∨ h.op = 14 ∨ h.op = 15 ∨ h.op = 16 ∨ h.op = 17 ∨ h.op = 18 ∨ h.op = 19 ∨ h.op = 20 ∨ h.op = 21 := by omega
  rcases hc with e | e | e | e | e | e | e | e | e | e | e | e | e | e | e | e | e | e | e | e | e
  · rw [e]; exact ⟨_, rfl, fun a w K Q h1 h2 h3 hK => rk_call1 h R ho hR a w K Q h1 h2 h3 hK⟩
  · rw [e]; exact ⟨_, rfl, fun a w K Q h1 h2 h3 hK => rk_call2 h R ho hR a w K Q h1 h2 h3 hK⟩
  · rw [e]; exact ⟨_, rfl, fun a w K Q h1 h2 h3 hK => rk_call3 h R ho hR a w K Q h1 h2 h3 hK⟩
  · rw [e]; exact ⟨_, rfl, fun a w K Q h1 h2 h3 hK => rk_call4 h R ho hR a w K Q h1 h2 h3 hK⟩
  · rw [e]; exact ⟨_, rfl, fun a w K Q h1 h2 h3 hK => rk_call5 h R ho hR a w K Q h1 h2 h3 hK⟩
  · rw [e]; exact ⟨_, rfl, fun a w K Q h1 h2 h3 hK => rk_call6 h R ho hR a w K Q h1 h2 h3 hK⟩
  · rw [e]; exact ⟨_, rfl, fun a w K Q h1 h2 h3 hK => rk_call7 h R ho hR a w K Q h1 h2 h3 hK⟩
  · rw [e]; exact ⟨_, rfl, fun a w K Q h1 h2 h3 hK => rk_call8 h R ho hR a w K Q h1 h2 h3 hK⟩
  · rw [e]; exact ⟨_, rfl, fun a w K Q h1 h2 h3 hK => rk_call9 h R ho hR a w K Q h1 h2 h3 hK⟩
  · rw [e]; exact ⟨_, rfl, fun a w K Q h1 h2 h3 hK => rk_call10 h R ho hR a w K Q h1 h2 h3 hK⟩
  · rw [e]; exact ⟨_, rfl, fun a w K Q h1 h2 h3 hK => rk_call11 h R ho hR a w K Q h1 h2 h3 hK⟩
  · rw [e]; exact ⟨_, rfl, fun a w K Q h1 h2 h3 hK => rk_call12 h R ho hR a w K Q h1 h2 h3 hK⟩
  · rw [e]; exact ⟨_, rfl, fun a w K Q h1 h2 h3 hK => rk_call13 h R ho hR a w K Q h1 h2 h3 hK⟩
  · rw [e]; exact ⟨_, rfl, fun a w K Q h1 h2 h3 hK => rk_call14 h R ho hR a w K Q h1 h2 h3 hK⟩
  · rw [e]; exact ⟨_, rfl, fun a w K Q h1 h2 h3 hK => rk_call15 h R ho hR a w K Q h1 h2 h3 hK⟩
  · rw [e]; exact ⟨_, rfl, fun a w K Q h1 h2 h3 hK => rk_call16 h R ho hR a w K Q h1 h2 h3 hK⟩
  · rw [e]; exact ⟨_, rfl, fun a w K Q h1 h2 h3 hK => rk_call17 h R ho hR a w K Q h1 h2 h3 hK⟩
  · rw [e]; exact ⟨_, rfl, fun a w K Q h1 h2 h3 hK => rk_call18 h R ho hR a w K Q h1 h2 h3 hK⟩
  · rw [e]; exact ⟨_, rfl, fun a w K Q h1 h2 h3 hK => rk_call19 h R ho hR a w K Q h1 h2 h3 hK⟩
  · rw [e]; exact ⟨_, rfl, fun a w K Q h1 h2 h3 hK => rk_call20 h R ho hR a w K Q h1 h2 h3 hK⟩
  · rw [e]; exact ⟨_, rfl, fun a w K Q h1 h2 h3 hK => rk_call21 h R ho hR a w K Q h1 h2 h3 hK⟩
theorem tab_none (o : Int) (o1 : 22 ≤ o) (o2 : o ≤ 31) : tabC[o.toNat]? = some .nilFunc := by
  have hc : o = 22 ∨ o = 23 ∨ o = 24 ∨ o = 25 ∨ o = 26 ∨ o = 27 ∨ o = 28 ∨ o = 29 ∨ o = 30 ∨ o = 31 := by omega
  rcases hc with rfl | rfl | rfl | rfl | rfl | rfl | rfl | rfl | rfl | rfl <;> rfl
end Go.Proofs.YtjhmmfpmmgebjaaGreat
