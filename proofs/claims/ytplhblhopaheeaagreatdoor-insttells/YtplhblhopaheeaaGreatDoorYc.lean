/- Stage 7: Branches, Sets, Reads, Writes. -/
import Derived.Test.YtplhblhopaheeaaGreatDoorYb
import Derived.Deep.Cut
import Derived.Test.YtplhblhopaheeaaGreatDoorRows
import Derived.WalkKit
import Derived.ProofKit
import Derived.OpenShut
import Derived.LaidMore
import Derived.Lib.LaidTab
import Derived.Stop.Joined
namespace Go.Proofs.YtplhblhopaheeaaGreatDoor
open Go.ChangeShapes Go.WideShapes Go.ChangeAt Go.RowKit
set_option linter.unusedVariables false
set_option linter.unusedSimpArgs false

def branchesI (i : IV) (l : Nat) : Bool := classS i.op == 6 || (i.op == 52 && l.testBit 15)
def setsI (i : IV) : Int := if (!i.s && !comparesS i.op) = true then 0 else if sumsS i.op = true then 15 else if (i.op == 21) = true then 12 else if shiftsS i.op = true then 14 else if (classS i.op == 1) = false then 0 else if carriesS i = true then 14 else 12
theorem takes_b (i : IV) : 0 ≤ takesS i ∧ takesS i < 256 := by
  have h1 := dt_b i.op
  have h2 := lt_b i.op
  have h3 : secondS i = 0 ∨ secondS i = 4 := by unfold secondS; split <;> simp
  have h4 : 0 ≤ unaryTakesS i.op ∧ unaryTakesS i.op < 256 := by unfold unaryTakesS; (repeat' split) <;> omega
  have h5 : 0 ≤ restTakesS i.op ∧ restTakesS i.op < 256 := by unfold restTakesS; (repeat' split) <;> omega
  unfold takesS
  (repeat' split) <;> omega
theorem gives_b (i : IV) : 0 ≤ givesS i ∧ givesS i < 256 := by
  have h5 : 0 ≤ restGivesS i.op ∧ restGivesS i.op < 256 := by unfold restGivesS; (repeat' split) <;> omega
  have h6 : 0 ≤ manyGivesS i ∧ manyGivesS i < 256 := by unfold manyGivesS; (repeat' split) <;> omega
  unfold givesS
  (repeat' split) <;> omega
def takesN (i : IV) : Nat := (takesS i).toNat
def givesN (i : IV) : Nat := (givesS i).toNat
theorem takes_n (i : IV) : takesS i = (takesN i : Int) ∧ takesN i < 256 := by
  have := takes_b i
  unfold takesN
  omega
theorem gives_n (i : IV) : givesS i = (givesN i : Int) ∧ givesN i < 256 := by
  have := gives_b i
  unfold givesN
  omega
def readsW (i : IV) : Nat := bif i.cond == 14 then takesN i else takesN i ||| givesN i
theorem readsW_lt (i : IV) : readsW i < 256 := by
  unfold readsW
  cases i.cond == 14
  · exact Nat.or_lt_two_pow (n := 8) (takes_n i).2 (gives_n i).2
  · exact (takes_n i).2
theorem regsL_len (d n m a : Int) (l W : Nat) : (regsL d n m a l W).length < 1000 := by
  have h1 := fourP_len d n m a W 4
  have h2 := listL_len W l 16
  have h3 := restP_len W 3
  simp only [fourP] at h1
  simp only [restP] at h3
  unfold regsL
  rw [List.length_append, List.length_append]
  omega
def readsI (i : IV) (l : Nat) : List Int := riseL 14 (regsL i.d i.n i.m i.a l (readsW i))
def writesI (i : IV) (l : Nat) : List Int := riseL (bif branchesI i l then 15 else 14) (regsL i.d i.n i.m i.a l (givesN i))
/-- What rising leaves of a row that a call has just laid. -/
theorem below_rise {w1 w2 w3 : World} {v : Value} {xs : List Int} (hb : Below w1.heap.size w1 w2) (hown : w2.ownsRow w1.heap.size 3 1 v xs.length (ic xs)) (hg : w2.grownBy w3 v.ownBlock) : Below w1.heap.size w1 w3 :=
  ⟨hg.os.trans hb.os, hg.tape.trans hb.tape, hg.output.trans hb.output, Nat.le_trans hb.size hg.size, fun k hk => (hg.block k (Nat.lt_of_lt_of_le hk hb.size) (fun e => by
    have := (World.ownsRow.lt hown k e.symm).1
    omega)).trans (hb.block k hk)⟩
set_option maxHeartbeats 8000000 in
set_option maxRecDepth 100000 in
theorem branches_c (i : IV) (l : Nat) (hl : i.list = (l : Int)) (hl2 : l < 65536) (w : World) : Calls Tryz.prog 27 #[i.val] w fun e w' => e = .returned (.bool (branchesI i l)) ∧ Below w.heap.size w w' := by
  have CC : Hid (∀ w1, Calls Tryz.prog 23 #[.int .i64 i.op] w1 fun e w' => e = .returned (.int .i64 (classS i.op)) ∧ w' = w1) := fun w1 => class_c i.op w1
  have hb : bits .and .i64 ((l : Int) / 2 ^ 15) 1 = bif l.testBit 15 then 1 else 0 := bit1 l 15 hl2
  have HLS : Hid ((Cel.iv i).cells[12]? = some (.int .i64 (l : Int))) := by
    show some (Value.int .i64 i.list) = _
    rw [hl]
  have hl0 : 0 ≤ (l : Int) := by omega
  simp only [show (2 : Int) ^ 15 = 32768 from rfl] at hb
  unfold branchesI
  clear hl hl2
  generalize classS i.op = c at *
  cases e1 : (c == 6)
  · cases e2 : (i.op == 52)
    · go_enter Tryz.func27, Tryz.ntmps27
      have S := SH.start w
      go_wp2_with (first
        | ((with_reducible refine wpl_isDst 1 ?_); refine SH.box (L := []) S rfl 28 _ rfl (Cel.iv i) rfl ?_; clear S; intro b1 w1 S)
        | ((with_reducible refine wpl_isDst 4 ?_); refine S.ld 3 _ rfl b1 0 rfl 0 _ rfl _ rfl _ Tryz.underlying3 rfl rfl ?_)
        | (go_at_call 23; refine (CC.out _).mono ?_; rintro e wf ⟨rfl, rfl⟩)
        | ((with_reducible refine wpl_isDst 9 ?_); first | (refine wpl_skip rfl ?_) | refine S.ld 3 _ rfl b1 0 rfl 0 _ rfl _ rfl _ Tryz.underlying3 rfl rfl ?_)
        | ((with_reducible refine wpl_isDst 13 ?_); first | (refine wpl_skip rfl ?_) | refine S.ld 3 _ rfl b1 12 rfl 0 _ rfl (.int .i64 l) HLS.out _ Tryz.underlying3 rfl rfl ?_)
        | ((with_reducible refine wpl_isDst 15 ?_); first | (refine wpl_skip rfl ?_) | refine wpl_dst 15 rfl (.int .i64 0) (by go_simp; exact hb) rfl ?_)
        )
      go_ret
      exact ⟨rfl, S.low⟩
    · cases e3 : l.testBit 15
      · rw [e3] at hb
        simp only [cond_false] at hb
        go_enter Tryz.func27, Tryz.ntmps27
        have S := SH.start w
        go_wp2_with (first
          | ((with_reducible refine wpl_isDst 1 ?_); refine SH.box (L := []) S rfl 28 _ rfl (Cel.iv i) rfl ?_; clear S; intro b1 w1 S)
          | ((with_reducible refine wpl_isDst 4 ?_); refine S.ld 3 _ rfl b1 0 rfl 0 _ rfl _ rfl _ Tryz.underlying3 rfl rfl ?_)
          | (go_at_call 23; refine (CC.out _).mono ?_; rintro e wf ⟨rfl, rfl⟩)
          | ((with_reducible refine wpl_isDst 9 ?_); first | (refine wpl_skip rfl ?_) | refine S.ld 3 _ rfl b1 0 rfl 0 _ rfl _ rfl _ Tryz.underlying3 rfl rfl ?_)
          | ((with_reducible refine wpl_isDst 13 ?_); first | (refine wpl_skip rfl ?_) | refine S.ld 3 _ rfl b1 12 rfl 0 _ rfl (.int .i64 l) HLS.out _ Tryz.underlying3 rfl rfl ?_)
          | ((with_reducible refine wpl_isDst 15 ?_); first | (refine wpl_skip rfl ?_) | refine wpl_dst 15 rfl (.int .i64 0) (by go_simp; exact hb) rfl ?_)
          )
        go_ret
        exact ⟨rfl, S.low⟩
      · rw [e3] at hb
        simp only [cond_true] at hb
        go_enter Tryz.func27, Tryz.ntmps27
        have S := SH.start w
        go_wp2_with (first
          | ((with_reducible refine wpl_isDst 1 ?_); refine SH.box (L := []) S rfl 28 _ rfl (Cel.iv i) rfl ?_; clear S; intro b1 w1 S)
          | ((with_reducible refine wpl_isDst 4 ?_); refine S.ld 3 _ rfl b1 0 rfl 0 _ rfl _ rfl _ Tryz.underlying3 rfl rfl ?_)
          | (go_at_call 23; refine (CC.out _).mono ?_; rintro e wf ⟨rfl, rfl⟩)
          | ((with_reducible refine wpl_isDst 9 ?_); first | (refine wpl_skip rfl ?_) | refine S.ld 3 _ rfl b1 0 rfl 0 _ rfl _ rfl _ Tryz.underlying3 rfl rfl ?_)
          | ((with_reducible refine wpl_isDst 13 ?_); first | (refine wpl_skip rfl ?_) | refine S.ld 3 _ rfl b1 12 rfl 0 _ rfl (.int .i64 l) HLS.out _ Tryz.underlying3 rfl rfl ?_)
          | ((with_reducible refine wpl_isDst 15 ?_); first | (refine wpl_skip rfl ?_) | refine wpl_dst 15 rfl (.int .i64 1) (by go_simp; exact hb) rfl ?_)
          )
        go_ret
        exact ⟨rfl, S.low⟩
  · go_enter Tryz.func27, Tryz.ntmps27
    have S := SH.start w
    go_wp2_with (first
      | ((with_reducible refine wpl_isDst 1 ?_); refine SH.box (L := []) S rfl 28 _ rfl (Cel.iv i) rfl ?_; clear S; intro b1 w1 S)
      | ((with_reducible refine wpl_isDst 4 ?_); refine S.ld 3 _ rfl b1 0 rfl 0 _ rfl _ rfl _ Tryz.underlying3 rfl rfl ?_)
      | (go_at_call 23; refine (CC.out _).mono ?_; rintro e wf ⟨rfl, rfl⟩)
      | ((with_reducible refine wpl_isDst 9 ?_); first | (refine wpl_skip rfl ?_) | refine S.ld 3 _ rfl b1 0 rfl 0 _ rfl _ rfl _ Tryz.underlying3 rfl rfl ?_)
      | ((with_reducible refine wpl_isDst 13 ?_); first | (refine wpl_skip rfl ?_) | refine S.ld 3 _ rfl b1 12 rfl 0 _ rfl (.int .i64 l) HLS.out _ Tryz.underlying3 rfl rfl ?_)
      | ((with_reducible refine wpl_isDst 15 ?_); first | (refine wpl_skip rfl ?_) | refine wpl_dst 15 rfl (.int .i64 0) (by go_simp; exact hb) rfl ?_)
      )
    go_ret
    exact ⟨rfl, S.low⟩
set_option maxHeartbeats 8000000 in
set_option maxRecDepth 100000 in
theorem sets_c (i : IV) (w : World) : Calls Tryz.prog 19 #[i.val] w fun e w' => e = .returned (.int .i64 (setsI i)) ∧ Below w.heap.size w w' := by
  have CC : Hid (∀ w1, Calls Tryz.prog 23 #[.int .i64 i.op] w1 fun e w' => e = .returned (.int .i64 (classS i.op)) ∧ w' = w1) := fun w1 => class_c i.op w1
  have C1 : Hid (∀ w1, Calls Tryz.prog 63 #[.int .i64 i.op] w1 fun e w' => e = .returned (.bool (comparesS i.op)) ∧ w' = w1) := fun w1 => compares_c i.op w1
  have C2 : Hid (∀ w1, Calls Tryz.prog 64 #[.int .i64 i.op] w1 fun e w' => e = .returned (.bool (sumsS i.op)) ∧ w' = w1) := fun w1 => sums_c i.op w1
  have C3 : Hid (∀ w1, Calls Tryz.prog 65 #[.int .i64 i.op] w1 fun e w' => e = .returned (.bool (shiftsS i.op)) ∧ w' = w1) := fun w1 => shifts_c i.op w1
  have C4 : Hid (∀ w1, Calls Tryz.prog 66 #[i.val] w1 fun e w' => e = .returned (.bool (carriesS i)) ∧ Below w1.heap.size w1 w') := fun w1 => (carries_c i w1).mono fun e w' h => ⟨h.1, by rw [h.2]; exact low_one _ _⟩
  unfold setsI
  obtain ⟨sb, hsb⟩ : ∃ x, i.s = x := ⟨_, rfl⟩
  generalize hq1 : comparesS i.op = q1 at *
  generalize hq2 : sumsS i.op = q2 at *
  generalize hq3 : shiftsS i.op = q3 at *
  generalize hq4 : classS i.op = q4 at *
  generalize hq5 : carriesS i = q5 at *
  have HS : Hid ((Cel.iv i).cells[2]? = some (.bool sb)) := by
    show some (Value.bool i.s) = _
    rw [hsb]
  rw [hsb]
  clear hq1 hq2 hq3 hq4 hq5 hsb
  cases sb
  · cases q1
    · go_enter Tryz.func19, Tryz.ntmps19
      have S := SH.start w
      go_wp2_with (first
        | ((with_reducible refine wpl_isDst 1 ?_); refine SH.box (L := []) S rfl 28 _ rfl (Cel.iv i) rfl ?_; clear S; intro b1 w1 S)
        | ((with_reducible refine wpl_isDst 5 ?_); refine S.ld 4 _ rfl b1 2 rfl 0 _ rfl (.bool _) HS.out _ Tryz.underlying4 rfl rfl ?_)
        | ((with_reducible refine wpl_isDst 9 ?_); first | (refine wpl_skip rfl ?_) | refine S.ld 3 _ rfl b1 0 rfl 0 _ rfl _ rfl _ Tryz.underlying3 rfl rfl ?_)
        | (go_at_call 63; refine (C1.out _).mono ?_; rintro e wf ⟨rfl, rfl⟩)
        | ((with_reducible refine wpl_isDst 15 ?_); refine S.ld 3 _ rfl b1 0 rfl 0 _ rfl _ rfl _ Tryz.underlying3 rfl rfl ?_)
        | (go_at_call 64; refine (C2.out _).mono ?_; rintro e wf ⟨rfl, rfl⟩)
        | ((with_reducible refine wpl_isDst 19 ?_); refine S.ld 3 _ rfl b1 0 rfl 0 _ rfl _ rfl _ Tryz.underlying3 rfl rfl ?_)
        | ((with_reducible refine wpl_isDst 23 ?_); refine S.ld 3 _ rfl b1 0 rfl 0 _ rfl _ rfl _ Tryz.underlying3 rfl rfl ?_)
        | (go_at_call 65; refine (C3.out _).mono ?_; rintro e wf ⟨rfl, rfl⟩)
        | ((with_reducible refine wpl_isDst 27 ?_); refine S.ld 3 _ rfl b1 0 rfl 0 _ rfl _ rfl _ Tryz.underlying3 rfl rfl ?_)
        | (go_at_call 23; refine (CC.out _).mono ?_; rintro e wf ⟨rfl, rfl⟩)
        | ((with_reducible refine wpl_isDst 31 ?_); refine S.ldAll 28 _ rfl b1 rfl 0 _ rfl _ Tryz.underlying28 rfl (szIV _) rfl ?_)
        | (go_at_call 66; refine (C4.out _).mono ?_; rintro e wf ⟨rfl, hbf⟩; replace S := S.below hbf; clear hbf)
        )
      (try simp only [Exit.inBlock, Exit.then])
      go_ret
      exact ⟨by simp [*], S.low⟩
    · cases q2
      · cases e3 : (i.op == 21)
        · cases q3
          · cases e4 : (q4 == 1)
            · go_enter Tryz.func19, Tryz.ntmps19
              have S := SH.start w
              go_wp2_with (first
                | ((with_reducible refine wpl_isDst 1 ?_); refine SH.box (L := []) S rfl 28 _ rfl (Cel.iv i) rfl ?_; clear S; intro b1 w1 S)
                | ((with_reducible refine wpl_isDst 5 ?_); refine S.ld 4 _ rfl b1 2 rfl 0 _ rfl (.bool _) HS.out _ Tryz.underlying4 rfl rfl ?_)
                | ((with_reducible refine wpl_isDst 9 ?_); first | (refine wpl_skip rfl ?_) | refine S.ld 3 _ rfl b1 0 rfl 0 _ rfl _ rfl _ Tryz.underlying3 rfl rfl ?_)
                | (go_at_call 63; refine (C1.out _).mono ?_; rintro e wf ⟨rfl, rfl⟩)
                | ((with_reducible refine wpl_isDst 15 ?_); refine S.ld 3 _ rfl b1 0 rfl 0 _ rfl _ rfl _ Tryz.underlying3 rfl rfl ?_)
                | (go_at_call 64; refine (C2.out _).mono ?_; rintro e wf ⟨rfl, rfl⟩)
                | ((with_reducible refine wpl_isDst 19 ?_); refine S.ld 3 _ rfl b1 0 rfl 0 _ rfl _ rfl _ Tryz.underlying3 rfl rfl ?_)
                | ((with_reducible refine wpl_isDst 23 ?_); refine S.ld 3 _ rfl b1 0 rfl 0 _ rfl _ rfl _ Tryz.underlying3 rfl rfl ?_)
                | (go_at_call 65; refine (C3.out _).mono ?_; rintro e wf ⟨rfl, rfl⟩)
                | ((with_reducible refine wpl_isDst 27 ?_); refine S.ld 3 _ rfl b1 0 rfl 0 _ rfl _ rfl _ Tryz.underlying3 rfl rfl ?_)
                | (go_at_call 23; refine (CC.out _).mono ?_; rintro e wf ⟨rfl, rfl⟩)
                | ((with_reducible refine wpl_isDst 31 ?_); refine S.ldAll 28 _ rfl b1 rfl 0 _ rfl _ Tryz.underlying28 rfl (szIV _) rfl ?_)
                | (go_at_call 66; refine (C4.out _).mono ?_; rintro e wf ⟨rfl, hbf⟩; replace S := S.below hbf; clear hbf)
                )
              (try simp only [Exit.inBlock, Exit.then])
              go_ret
              exact ⟨by simp [*], S.low⟩
            · cases q5
              · go_enter Tryz.func19, Tryz.ntmps19
                have S := SH.start w
                go_wp2_with (first
                  | ((with_reducible refine wpl_isDst 1 ?_); refine SH.box (L := []) S rfl 28 _ rfl (Cel.iv i) rfl ?_; clear S; intro b1 w1 S)
                  | ((with_reducible refine wpl_isDst 5 ?_); refine S.ld 4 _ rfl b1 2 rfl 0 _ rfl (.bool _) HS.out _ Tryz.underlying4 rfl rfl ?_)
                  | ((with_reducible refine wpl_isDst 9 ?_); first | (refine wpl_skip rfl ?_) | refine S.ld 3 _ rfl b1 0 rfl 0 _ rfl _ rfl _ Tryz.underlying3 rfl rfl ?_)
                  | (go_at_call 63; refine (C1.out _).mono ?_; rintro e wf ⟨rfl, rfl⟩)
                  | ((with_reducible refine wpl_isDst 15 ?_); refine S.ld 3 _ rfl b1 0 rfl 0 _ rfl _ rfl _ Tryz.underlying3 rfl rfl ?_)
                  | (go_at_call 64; refine (C2.out _).mono ?_; rintro e wf ⟨rfl, rfl⟩)
                  | ((with_reducible refine wpl_isDst 19 ?_); refine S.ld 3 _ rfl b1 0 rfl 0 _ rfl _ rfl _ Tryz.underlying3 rfl rfl ?_)
                  | ((with_reducible refine wpl_isDst 23 ?_); refine S.ld 3 _ rfl b1 0 rfl 0 _ rfl _ rfl _ Tryz.underlying3 rfl rfl ?_)
                  | (go_at_call 65; refine (C3.out _).mono ?_; rintro e wf ⟨rfl, rfl⟩)
                  | ((with_reducible refine wpl_isDst 27 ?_); refine S.ld 3 _ rfl b1 0 rfl 0 _ rfl _ rfl _ Tryz.underlying3 rfl rfl ?_)
                  | (go_at_call 23; refine (CC.out _).mono ?_; rintro e wf ⟨rfl, rfl⟩)
                  | ((with_reducible refine wpl_isDst 31 ?_); refine S.ldAll 28 _ rfl b1 rfl 0 _ rfl _ Tryz.underlying28 rfl (szIV _) rfl ?_)
                  | (go_at_call 66; refine (C4.out _).mono ?_; rintro e wf ⟨rfl, hbf⟩; replace S := S.below hbf; clear hbf)
                  )
                (try simp only [Exit.inBlock, Exit.then])
                go_ret
                exact ⟨by simp [*], S.low⟩
              · go_enter Tryz.func19, Tryz.ntmps19
                have S := SH.start w
                go_wp2_with (first
                  | ((with_reducible refine wpl_isDst 1 ?_); refine SH.box (L := []) S rfl 28 _ rfl (Cel.iv i) rfl ?_; clear S; intro b1 w1 S)
                  | ((with_reducible refine wpl_isDst 5 ?_); refine S.ld 4 _ rfl b1 2 rfl 0 _ rfl (.bool _) HS.out _ Tryz.underlying4 rfl rfl ?_)
                  | ((with_reducible refine wpl_isDst 9 ?_); first | (refine wpl_skip rfl ?_) | refine S.ld 3 _ rfl b1 0 rfl 0 _ rfl _ rfl _ Tryz.underlying3 rfl rfl ?_)
                  | (go_at_call 63; refine (C1.out _).mono ?_; rintro e wf ⟨rfl, rfl⟩)
                  | ((with_reducible refine wpl_isDst 15 ?_); refine S.ld 3 _ rfl b1 0 rfl 0 _ rfl _ rfl _ Tryz.underlying3 rfl rfl ?_)
                  | (go_at_call 64; refine (C2.out _).mono ?_; rintro e wf ⟨rfl, rfl⟩)
                  | ((with_reducible refine wpl_isDst 19 ?_); refine S.ld 3 _ rfl b1 0 rfl 0 _ rfl _ rfl _ Tryz.underlying3 rfl rfl ?_)
                  | ((with_reducible refine wpl_isDst 23 ?_); refine S.ld 3 _ rfl b1 0 rfl 0 _ rfl _ rfl _ Tryz.underlying3 rfl rfl ?_)
                  | (go_at_call 65; refine (C3.out _).mono ?_; rintro e wf ⟨rfl, rfl⟩)
                  | ((with_reducible refine wpl_isDst 27 ?_); refine S.ld 3 _ rfl b1 0 rfl 0 _ rfl _ rfl _ Tryz.underlying3 rfl rfl ?_)
                  | (go_at_call 23; refine (CC.out _).mono ?_; rintro e wf ⟨rfl, rfl⟩)
                  | ((with_reducible refine wpl_isDst 31 ?_); refine S.ldAll 28 _ rfl b1 rfl 0 _ rfl _ Tryz.underlying28 rfl (szIV _) rfl ?_)
                  | (go_at_call 66; refine (C4.out _).mono ?_; rintro e wf ⟨rfl, hbf⟩; replace S := S.below hbf; clear hbf)
                  )
                (try simp only [Exit.inBlock, Exit.then])
                go_ret
                exact ⟨by simp [*], S.low⟩
          · go_enter Tryz.func19, Tryz.ntmps19
            have S := SH.start w
            go_wp2_with (first
              | ((with_reducible refine wpl_isDst 1 ?_); refine SH.box (L := []) S rfl 28 _ rfl (Cel.iv i) rfl ?_; clear S; intro b1 w1 S)
              | ((with_reducible refine wpl_isDst 5 ?_); refine S.ld 4 _ rfl b1 2 rfl 0 _ rfl (.bool _) HS.out _ Tryz.underlying4 rfl rfl ?_)
              | ((with_reducible refine wpl_isDst 9 ?_); first | (refine wpl_skip rfl ?_) | refine S.ld 3 _ rfl b1 0 rfl 0 _ rfl _ rfl _ Tryz.underlying3 rfl rfl ?_)
              | (go_at_call 63; refine (C1.out _).mono ?_; rintro e wf ⟨rfl, rfl⟩)
              | ((with_reducible refine wpl_isDst 15 ?_); refine S.ld 3 _ rfl b1 0 rfl 0 _ rfl _ rfl _ Tryz.underlying3 rfl rfl ?_)
              | (go_at_call 64; refine (C2.out _).mono ?_; rintro e wf ⟨rfl, rfl⟩)
              | ((with_reducible refine wpl_isDst 19 ?_); refine S.ld 3 _ rfl b1 0 rfl 0 _ rfl _ rfl _ Tryz.underlying3 rfl rfl ?_)
              | ((with_reducible refine wpl_isDst 23 ?_); refine S.ld 3 _ rfl b1 0 rfl 0 _ rfl _ rfl _ Tryz.underlying3 rfl rfl ?_)
              | (go_at_call 65; refine (C3.out _).mono ?_; rintro e wf ⟨rfl, rfl⟩)
              | ((with_reducible refine wpl_isDst 27 ?_); refine S.ld 3 _ rfl b1 0 rfl 0 _ rfl _ rfl _ Tryz.underlying3 rfl rfl ?_)
              | (go_at_call 23; refine (CC.out _).mono ?_; rintro e wf ⟨rfl, rfl⟩)
              | ((with_reducible refine wpl_isDst 31 ?_); refine S.ldAll 28 _ rfl b1 rfl 0 _ rfl _ Tryz.underlying28 rfl (szIV _) rfl ?_)
              | (go_at_call 66; refine (C4.out _).mono ?_; rintro e wf ⟨rfl, hbf⟩; replace S := S.below hbf; clear hbf)
              )
            (try simp only [Exit.inBlock, Exit.then])
            go_ret
            exact ⟨by simp [*], S.low⟩
        · go_enter Tryz.func19, Tryz.ntmps19
          have S := SH.start w
          go_wp2_with (first
            | ((with_reducible refine wpl_isDst 1 ?_); refine SH.box (L := []) S rfl 28 _ rfl (Cel.iv i) rfl ?_; clear S; intro b1 w1 S)
            | ((with_reducible refine wpl_isDst 5 ?_); refine S.ld 4 _ rfl b1 2 rfl 0 _ rfl (.bool _) HS.out _ Tryz.underlying4 rfl rfl ?_)
            | ((with_reducible refine wpl_isDst 9 ?_); first | (refine wpl_skip rfl ?_) | refine S.ld 3 _ rfl b1 0 rfl 0 _ rfl _ rfl _ Tryz.underlying3 rfl rfl ?_)
            | (go_at_call 63; refine (C1.out _).mono ?_; rintro e wf ⟨rfl, rfl⟩)
            | ((with_reducible refine wpl_isDst 15 ?_); refine S.ld 3 _ rfl b1 0 rfl 0 _ rfl _ rfl _ Tryz.underlying3 rfl rfl ?_)
            | (go_at_call 64; refine (C2.out _).mono ?_; rintro e wf ⟨rfl, rfl⟩)
            | ((with_reducible refine wpl_isDst 19 ?_); refine S.ld 3 _ rfl b1 0 rfl 0 _ rfl _ rfl _ Tryz.underlying3 rfl rfl ?_)
            | ((with_reducible refine wpl_isDst 23 ?_); refine S.ld 3 _ rfl b1 0 rfl 0 _ rfl _ rfl _ Tryz.underlying3 rfl rfl ?_)
            | (go_at_call 65; refine (C3.out _).mono ?_; rintro e wf ⟨rfl, rfl⟩)
            | ((with_reducible refine wpl_isDst 27 ?_); refine S.ld 3 _ rfl b1 0 rfl 0 _ rfl _ rfl _ Tryz.underlying3 rfl rfl ?_)
            | (go_at_call 23; refine (CC.out _).mono ?_; rintro e wf ⟨rfl, rfl⟩)
            | ((with_reducible refine wpl_isDst 31 ?_); refine S.ldAll 28 _ rfl b1 rfl 0 _ rfl _ Tryz.underlying28 rfl (szIV _) rfl ?_)
            | (go_at_call 66; refine (C4.out _).mono ?_; rintro e wf ⟨rfl, hbf⟩; replace S := S.below hbf; clear hbf)
            )
          (try simp only [Exit.inBlock, Exit.then])
          go_ret
          exact ⟨by simp [*], S.low⟩
      · go_enter Tryz.func19, Tryz.ntmps19
        have S := SH.start w
        go_wp2_with (first
          | ((with_reducible refine wpl_isDst 1 ?_); refine SH.box (L := []) S rfl 28 _ rfl (Cel.iv i) rfl ?_; clear S; intro b1 w1 S)
          | ((with_reducible refine wpl_isDst 5 ?_); refine S.ld 4 _ rfl b1 2 rfl 0 _ rfl (.bool _) HS.out _ Tryz.underlying4 rfl rfl ?_)
          | ((with_reducible refine wpl_isDst 9 ?_); first | (refine wpl_skip rfl ?_) | refine S.ld 3 _ rfl b1 0 rfl 0 _ rfl _ rfl _ Tryz.underlying3 rfl rfl ?_)
          | (go_at_call 63; refine (C1.out _).mono ?_; rintro e wf ⟨rfl, rfl⟩)
          | ((with_reducible refine wpl_isDst 15 ?_); refine S.ld 3 _ rfl b1 0 rfl 0 _ rfl _ rfl _ Tryz.underlying3 rfl rfl ?_)
          | (go_at_call 64; refine (C2.out _).mono ?_; rintro e wf ⟨rfl, rfl⟩)
          | ((with_reducible refine wpl_isDst 19 ?_); refine S.ld 3 _ rfl b1 0 rfl 0 _ rfl _ rfl _ Tryz.underlying3 rfl rfl ?_)
          | ((with_reducible refine wpl_isDst 23 ?_); refine S.ld 3 _ rfl b1 0 rfl 0 _ rfl _ rfl _ Tryz.underlying3 rfl rfl ?_)
          | (go_at_call 65; refine (C3.out _).mono ?_; rintro e wf ⟨rfl, rfl⟩)
          | ((with_reducible refine wpl_isDst 27 ?_); refine S.ld 3 _ rfl b1 0 rfl 0 _ rfl _ rfl _ Tryz.underlying3 rfl rfl ?_)
          | (go_at_call 23; refine (CC.out _).mono ?_; rintro e wf ⟨rfl, rfl⟩)
          | ((with_reducible refine wpl_isDst 31 ?_); refine S.ldAll 28 _ rfl b1 rfl 0 _ rfl _ Tryz.underlying28 rfl (szIV _) rfl ?_)
          | (go_at_call 66; refine (C4.out _).mono ?_; rintro e wf ⟨rfl, hbf⟩; replace S := S.below hbf; clear hbf)
          )
        (try simp only [Exit.inBlock, Exit.then])
        go_ret
        exact ⟨by simp [*], S.low⟩
  · cases q2
    · cases e3 : (i.op == 21)
      · cases q3
        · cases e4 : (q4 == 1)
          · go_enter Tryz.func19, Tryz.ntmps19
            have S := SH.start w
            go_wp2_with (first
              | ((with_reducible refine wpl_isDst 1 ?_); refine SH.box (L := []) S rfl 28 _ rfl (Cel.iv i) rfl ?_; clear S; intro b1 w1 S)
              | ((with_reducible refine wpl_isDst 5 ?_); refine S.ld 4 _ rfl b1 2 rfl 0 _ rfl (.bool _) HS.out _ Tryz.underlying4 rfl rfl ?_)
              | ((with_reducible refine wpl_isDst 9 ?_); first | (refine wpl_skip rfl ?_) | refine S.ld 3 _ rfl b1 0 rfl 0 _ rfl _ rfl _ Tryz.underlying3 rfl rfl ?_)
              | (go_at_call 63; refine (C1.out _).mono ?_; rintro e wf ⟨rfl, rfl⟩)
              | ((with_reducible refine wpl_isDst 15 ?_); refine S.ld 3 _ rfl b1 0 rfl 0 _ rfl _ rfl _ Tryz.underlying3 rfl rfl ?_)
              | (go_at_call 64; refine (C2.out _).mono ?_; rintro e wf ⟨rfl, rfl⟩)
              | ((with_reducible refine wpl_isDst 19 ?_); refine S.ld 3 _ rfl b1 0 rfl 0 _ rfl _ rfl _ Tryz.underlying3 rfl rfl ?_)
              | ((with_reducible refine wpl_isDst 23 ?_); refine S.ld 3 _ rfl b1 0 rfl 0 _ rfl _ rfl _ Tryz.underlying3 rfl rfl ?_)
              | (go_at_call 65; refine (C3.out _).mono ?_; rintro e wf ⟨rfl, rfl⟩)
              | ((with_reducible refine wpl_isDst 27 ?_); refine S.ld 3 _ rfl b1 0 rfl 0 _ rfl _ rfl _ Tryz.underlying3 rfl rfl ?_)
              | (go_at_call 23; refine (CC.out _).mono ?_; rintro e wf ⟨rfl, rfl⟩)
              | ((with_reducible refine wpl_isDst 31 ?_); refine S.ldAll 28 _ rfl b1 rfl 0 _ rfl _ Tryz.underlying28 rfl (szIV _) rfl ?_)
              | (go_at_call 66; refine (C4.out _).mono ?_; rintro e wf ⟨rfl, hbf⟩; replace S := S.below hbf; clear hbf)
              )
            (try simp only [Exit.inBlock, Exit.then])
            go_ret
            exact ⟨by simp [*], S.low⟩
          · cases q5
            · go_enter Tryz.func19, Tryz.ntmps19
              have S := SH.start w
              go_wp2_with (first
                | ((with_reducible refine wpl_isDst 1 ?_); refine SH.box (L := []) S rfl 28 _ rfl (Cel.iv i) rfl ?_; clear S; intro b1 w1 S)
                | ((with_reducible refine wpl_isDst 5 ?_); refine S.ld 4 _ rfl b1 2 rfl 0 _ rfl (.bool _) HS.out _ Tryz.underlying4 rfl rfl ?_)
                | ((with_reducible refine wpl_isDst 9 ?_); first | (refine wpl_skip rfl ?_) | refine S.ld 3 _ rfl b1 0 rfl 0 _ rfl _ rfl _ Tryz.underlying3 rfl rfl ?_)
                | (go_at_call 63; refine (C1.out _).mono ?_; rintro e wf ⟨rfl, rfl⟩)
                | ((with_reducible refine wpl_isDst 15 ?_); refine S.ld 3 _ rfl b1 0 rfl 0 _ rfl _ rfl _ Tryz.underlying3 rfl rfl ?_)
                | (go_at_call 64; refine (C2.out _).mono ?_; rintro e wf ⟨rfl, rfl⟩)
                | ((with_reducible refine wpl_isDst 19 ?_); refine S.ld 3 _ rfl b1 0 rfl 0 _ rfl _ rfl _ Tryz.underlying3 rfl rfl ?_)
                | ((with_reducible refine wpl_isDst 23 ?_); refine S.ld 3 _ rfl b1 0 rfl 0 _ rfl _ rfl _ Tryz.underlying3 rfl rfl ?_)
                | (go_at_call 65; refine (C3.out _).mono ?_; rintro e wf ⟨rfl, rfl⟩)
                | ((with_reducible refine wpl_isDst 27 ?_); refine S.ld 3 _ rfl b1 0 rfl 0 _ rfl _ rfl _ Tryz.underlying3 rfl rfl ?_)
                | (go_at_call 23; refine (CC.out _).mono ?_; rintro e wf ⟨rfl, rfl⟩)
                | ((with_reducible refine wpl_isDst 31 ?_); refine S.ldAll 28 _ rfl b1 rfl 0 _ rfl _ Tryz.underlying28 rfl (szIV _) rfl ?_)
                | (go_at_call 66; refine (C4.out _).mono ?_; rintro e wf ⟨rfl, hbf⟩; replace S := S.below hbf; clear hbf)
                )
              (try simp only [Exit.inBlock, Exit.then])
              go_ret
              exact ⟨by simp [*], S.low⟩
            · go_enter Tryz.func19, Tryz.ntmps19
              have S := SH.start w
              go_wp2_with (first
                | ((with_reducible refine wpl_isDst 1 ?_); refine SH.box (L := []) S rfl 28 _ rfl (Cel.iv i) rfl ?_; clear S; intro b1 w1 S)
                | ((with_reducible refine wpl_isDst 5 ?_); refine S.ld 4 _ rfl b1 2 rfl 0 _ rfl (.bool _) HS.out _ Tryz.underlying4 rfl rfl ?_)
                | ((with_reducible refine wpl_isDst 9 ?_); first | (refine wpl_skip rfl ?_) | refine S.ld 3 _ rfl b1 0 rfl 0 _ rfl _ rfl _ Tryz.underlying3 rfl rfl ?_)
                | (go_at_call 63; refine (C1.out _).mono ?_; rintro e wf ⟨rfl, rfl⟩)
                | ((with_reducible refine wpl_isDst 15 ?_); refine S.ld 3 _ rfl b1 0 rfl 0 _ rfl _ rfl _ Tryz.underlying3 rfl rfl ?_)
                | (go_at_call 64; refine (C2.out _).mono ?_; rintro e wf ⟨rfl, rfl⟩)
                | ((with_reducible refine wpl_isDst 19 ?_); refine S.ld 3 _ rfl b1 0 rfl 0 _ rfl _ rfl _ Tryz.underlying3 rfl rfl ?_)
                | ((with_reducible refine wpl_isDst 23 ?_); refine S.ld 3 _ rfl b1 0 rfl 0 _ rfl _ rfl _ Tryz.underlying3 rfl rfl ?_)
                | (go_at_call 65; refine (C3.out _).mono ?_; rintro e wf ⟨rfl, rfl⟩)
                | ((with_reducible refine wpl_isDst 27 ?_); refine S.ld 3 _ rfl b1 0 rfl 0 _ rfl _ rfl _ Tryz.underlying3 rfl rfl ?_)
                | (go_at_call 23; refine (CC.out _).mono ?_; rintro e wf ⟨rfl, rfl⟩)
                | ((with_reducible refine wpl_isDst 31 ?_); refine S.ldAll 28 _ rfl b1 rfl 0 _ rfl _ Tryz.underlying28 rfl (szIV _) rfl ?_)
                | (go_at_call 66; refine (C4.out _).mono ?_; rintro e wf ⟨rfl, hbf⟩; replace S := S.below hbf; clear hbf)
                )
              (try simp only [Exit.inBlock, Exit.then])
              go_ret
              exact ⟨by simp [*], S.low⟩
        · go_enter Tryz.func19, Tryz.ntmps19
          have S := SH.start w
          go_wp2_with (first
            | ((with_reducible refine wpl_isDst 1 ?_); refine SH.box (L := []) S rfl 28 _ rfl (Cel.iv i) rfl ?_; clear S; intro b1 w1 S)
            | ((with_reducible refine wpl_isDst 5 ?_); refine S.ld 4 _ rfl b1 2 rfl 0 _ rfl (.bool _) HS.out _ Tryz.underlying4 rfl rfl ?_)
            | ((with_reducible refine wpl_isDst 9 ?_); first | (refine wpl_skip rfl ?_) | refine S.ld 3 _ rfl b1 0 rfl 0 _ rfl _ rfl _ Tryz.underlying3 rfl rfl ?_)
            | (go_at_call 63; refine (C1.out _).mono ?_; rintro e wf ⟨rfl, rfl⟩)
            | ((with_reducible refine wpl_isDst 15 ?_); refine S.ld 3 _ rfl b1 0 rfl 0 _ rfl _ rfl _ Tryz.underlying3 rfl rfl ?_)
            | (go_at_call 64; refine (C2.out _).mono ?_; rintro e wf ⟨rfl, rfl⟩)
            | ((with_reducible refine wpl_isDst 19 ?_); refine S.ld 3 _ rfl b1 0 rfl 0 _ rfl _ rfl _ Tryz.underlying3 rfl rfl ?_)
            | ((with_reducible refine wpl_isDst 23 ?_); refine S.ld 3 _ rfl b1 0 rfl 0 _ rfl _ rfl _ Tryz.underlying3 rfl rfl ?_)
            | (go_at_call 65; refine (C3.out _).mono ?_; rintro e wf ⟨rfl, rfl⟩)
            | ((with_reducible refine wpl_isDst 27 ?_); refine S.ld 3 _ rfl b1 0 rfl 0 _ rfl _ rfl _ Tryz.underlying3 rfl rfl ?_)
            | (go_at_call 23; refine (CC.out _).mono ?_; rintro e wf ⟨rfl, rfl⟩)
            | ((with_reducible refine wpl_isDst 31 ?_); refine S.ldAll 28 _ rfl b1 rfl 0 _ rfl _ Tryz.underlying28 rfl (szIV _) rfl ?_)
            | (go_at_call 66; refine (C4.out _).mono ?_; rintro e wf ⟨rfl, hbf⟩; replace S := S.below hbf; clear hbf)
            )
          (try simp only [Exit.inBlock, Exit.then])
          go_ret
          exact ⟨by simp [*], S.low⟩
      · go_enter Tryz.func19, Tryz.ntmps19
        have S := SH.start w
        go_wp2_with (first
          | ((with_reducible refine wpl_isDst 1 ?_); refine SH.box (L := []) S rfl 28 _ rfl (Cel.iv i) rfl ?_; clear S; intro b1 w1 S)
          | ((with_reducible refine wpl_isDst 5 ?_); refine S.ld 4 _ rfl b1 2 rfl 0 _ rfl (.bool _) HS.out _ Tryz.underlying4 rfl rfl ?_)
          | ((with_reducible refine wpl_isDst 9 ?_); first | (refine wpl_skip rfl ?_) | refine S.ld 3 _ rfl b1 0 rfl 0 _ rfl _ rfl _ Tryz.underlying3 rfl rfl ?_)
          | (go_at_call 63; refine (C1.out _).mono ?_; rintro e wf ⟨rfl, rfl⟩)
          | ((with_reducible refine wpl_isDst 15 ?_); refine S.ld 3 _ rfl b1 0 rfl 0 _ rfl _ rfl _ Tryz.underlying3 rfl rfl ?_)
          | (go_at_call 64; refine (C2.out _).mono ?_; rintro e wf ⟨rfl, rfl⟩)
          | ((with_reducible refine wpl_isDst 19 ?_); refine S.ld 3 _ rfl b1 0 rfl 0 _ rfl _ rfl _ Tryz.underlying3 rfl rfl ?_)
          | ((with_reducible refine wpl_isDst 23 ?_); refine S.ld 3 _ rfl b1 0 rfl 0 _ rfl _ rfl _ Tryz.underlying3 rfl rfl ?_)
          | (go_at_call 65; refine (C3.out _).mono ?_; rintro e wf ⟨rfl, rfl⟩)
          | ((with_reducible refine wpl_isDst 27 ?_); refine S.ld 3 _ rfl b1 0 rfl 0 _ rfl _ rfl _ Tryz.underlying3 rfl rfl ?_)
          | (go_at_call 23; refine (CC.out _).mono ?_; rintro e wf ⟨rfl, rfl⟩)
          | ((with_reducible refine wpl_isDst 31 ?_); refine S.ldAll 28 _ rfl b1 rfl 0 _ rfl _ Tryz.underlying28 rfl (szIV _) rfl ?_)
          | (go_at_call 66; refine (C4.out _).mono ?_; rintro e wf ⟨rfl, hbf⟩; replace S := S.below hbf; clear hbf)
          )
        (try simp only [Exit.inBlock, Exit.then])
        go_ret
        exact ⟨by simp [*], S.low⟩
    · go_enter Tryz.func19, Tryz.ntmps19
      have S := SH.start w
      go_wp2_with (first
        | ((with_reducible refine wpl_isDst 1 ?_); refine SH.box (L := []) S rfl 28 _ rfl (Cel.iv i) rfl ?_; clear S; intro b1 w1 S)
        | ((with_reducible refine wpl_isDst 5 ?_); refine S.ld 4 _ rfl b1 2 rfl 0 _ rfl (.bool _) HS.out _ Tryz.underlying4 rfl rfl ?_)
        | ((with_reducible refine wpl_isDst 9 ?_); first | (refine wpl_skip rfl ?_) | refine S.ld 3 _ rfl b1 0 rfl 0 _ rfl _ rfl _ Tryz.underlying3 rfl rfl ?_)
        | (go_at_call 63; refine (C1.out _).mono ?_; rintro e wf ⟨rfl, rfl⟩)
        | ((with_reducible refine wpl_isDst 15 ?_); refine S.ld 3 _ rfl b1 0 rfl 0 _ rfl _ rfl _ Tryz.underlying3 rfl rfl ?_)
        | (go_at_call 64; refine (C2.out _).mono ?_; rintro e wf ⟨rfl, rfl⟩)
        | ((with_reducible refine wpl_isDst 19 ?_); refine S.ld 3 _ rfl b1 0 rfl 0 _ rfl _ rfl _ Tryz.underlying3 rfl rfl ?_)
        | ((with_reducible refine wpl_isDst 23 ?_); refine S.ld 3 _ rfl b1 0 rfl 0 _ rfl _ rfl _ Tryz.underlying3 rfl rfl ?_)
        | (go_at_call 65; refine (C3.out _).mono ?_; rintro e wf ⟨rfl, rfl⟩)
        | ((with_reducible refine wpl_isDst 27 ?_); refine S.ld 3 _ rfl b1 0 rfl 0 _ rfl _ rfl _ Tryz.underlying3 rfl rfl ?_)
        | (go_at_call 23; refine (CC.out _).mono ?_; rintro e wf ⟨rfl, rfl⟩)
        | ((with_reducible refine wpl_isDst 31 ?_); refine S.ldAll 28 _ rfl b1 rfl 0 _ rfl _ Tryz.underlying28 rfl (szIV _) rfl ?_)
        | (go_at_call 66; refine (C4.out _).mono ?_; rintro e wf ⟨rfl, hbf⟩; replace S := S.below hbf; clear hbf)
        )
      (try simp only [Exit.inBlock, Exit.then])
      go_ret
      exact ⟨by simp [*], S.low⟩
set_option maxHeartbeats 8000000 in
set_option maxRecDepth 100000 in
theorem reads_c (i : IV) (l : Nat) (hl : i.list = (l : Int)) (hl2 : l < 65536) (w : World) : Calls Tryz.prog 20 #[i.val] w fun e w' => ∃ u, e = .returned u ∧ IL w' u (readsI i l) ∧ Below w.heap.size w w' := by
  have CT : Hid (∀ w1, Calls Tryz.prog 67 #[i.val] w1 fun e w' => e = .returned (.int .i64 (takesN i : Int)) ∧ Below w1.heap.size w1 w') := fun w1 => by
    have h := takes_c i w1
    rw [(takes_n i).1] at h
    exact h
  have CG : Hid (∀ w1, Calls Tryz.prog 62 #[i.val] w1 fun e w' => e = .returned (.int .i64 (givesN i : Int)) ∧ Below w1.heap.size w1 w') := fun w1 => by
    have h := gives_c i w1
    rw [(gives_n i).1] at h
    exact h
  have CR : Hid (∀ w1, Calls Tryz.prog 61 #[i.val, .int .i64 (readsW i : Int)] w1 fun e w' => RowPost w1 (regsL i.d i.n i.m i.a l (readsW i)) e w') := fun w1 => registers_c i (readsW i) l (readsW_lt i) hl hl2 w1
  have HOR : Hid (bits .or .i64 (takesN i : Int) (givesN i : Int) = ((takesN i ||| givesN i : Nat) : Int)) := (bits64 _ _ (by have := (takes_n i).2; omega) (by have := (gives_n i).2; omega)).2
  have HRW : Hid (readsW i = bif i.cond == 14 then takesN i else takesN i ||| givesN i) := rfl
  unfold readsI
  clear hl hl2
  cases e1 : (i.cond == 14)
  · have hR : readsW i = takesN i ||| givesN i := by
      have := HRW.out
      rw [e1] at this
      exact this
    rw [← hR] at HOR
    have e2 : (i.cond != 14) = true := by simp only [bne, e1, Bool.not_false]
    clear HRW hR
    generalize readsW i = R at *
    generalize takesN i = T at *
    generalize givesN i = G at *
    go_enter Tryz.func20, Tryz.ntmps20
    have S := SH.start w
    go_wp2_with (first
      | ((with_reducible refine wpl_isDst 1 ?_); refine SH.box (L := []) S rfl 28 _ rfl (Cel.iv i) rfl ?_; clear S; intro b1 w1 S)
      | ((with_reducible refine wpl_isDst 4 ?_); refine S.ldAll 28 _ rfl b1 rfl 0 _ rfl _ Tryz.underlying28 rfl (szIV _) rfl ?_)
      | (go_at_call 67; refine (CT.out _).mono ?_; rintro e wf ⟨rfl, hbf⟩; replace S := S.below hbf; clear hbf)
      | ((with_reducible refine wpl_isDst 7 ?_); refine S.ld 3 _ rfl b1 3 rfl 0 _ rfl _ rfl _ Tryz.underlying3 rfl rfl ?_)
      | ((with_reducible refine wpl_isDst 10 ?_); refine S.ldAll 28 _ rfl b1 rfl 0 _ rfl _ Tryz.underlying28 rfl (szIV _) rfl ?_)
      | (go_at_call 62; refine (CG.out _).mono ?_; rintro e wf ⟨rfl, hbf⟩; replace S := S.below hbf; clear hbf)
      | ((with_reducible refine wpl_isDst 12 ?_); refine wpl_dst 12 rfl (.int .i64 (R : Int)) (by go_simp; exact HOR.out) rfl ?_)
      | ((with_reducible refine wpl_isDst 13 ?_); refine S.ldAll 28 _ rfl b1 rfl 0 _ rfl _ Tryz.underlying28 rfl (szIV _) rfl ?_)
      | (go_at_call 61; refine (CR.out _).mono ?_; rintro e wf ⟨v15, rfl, hown, hbf⟩; have HO : Hid _ := hown; have HBF : Hid _ := hbf; clear hown hbf)
      | (go_at_call 60; refine (rising_c 14 _ _ v15 _ HO.out (regsL_len _ _ _ _ _ _)).mono ?_; rintro e wg ⟨u, rfl, hil, hgr⟩; replace S := S.below (below_rise HBF.out HO.out hgr); have HIL : Hid _ := hil; clear hil hgr HO HBF)
      )
    go_ret
    exact ⟨_, rfl, HIL.out, S.low⟩
  · have hR : readsW i = takesN i := by
      have := HRW.out
      rw [e1] at this
      exact this
    have e2 : (i.cond != 14) = false := by simp only [bne, e1, Bool.not_true]
    rw [← hR] at CT HOR
    clear HRW hR
    generalize readsW i = R at *
    go_enter Tryz.func20, Tryz.ntmps20
    have S := SH.start w
    go_wp2_with (first
      | ((with_reducible refine wpl_isDst 1 ?_); refine SH.box (L := []) S rfl 28 _ rfl (Cel.iv i) rfl ?_; clear S; intro b1 w1 S)
      | ((with_reducible refine wpl_isDst 4 ?_); refine S.ldAll 28 _ rfl b1 rfl 0 _ rfl _ Tryz.underlying28 rfl (szIV _) rfl ?_)
      | (go_at_call 67; refine (CT.out _).mono ?_; rintro e wf ⟨rfl, hbf⟩; replace S := S.below hbf; clear hbf)
      | ((with_reducible refine wpl_isDst 7 ?_); refine S.ld 3 _ rfl b1 3 rfl 0 _ rfl _ rfl _ Tryz.underlying3 rfl rfl ?_)
      | ((with_reducible refine wpl_isDst 10 ?_); refine S.ldAll 28 _ rfl b1 rfl 0 _ rfl _ Tryz.underlying28 rfl (szIV _) rfl ?_)
      | (go_at_call 62; refine (CG.out _).mono ?_; rintro e wf ⟨rfl, hbf⟩; replace S := S.below hbf; clear hbf)
      | ((with_reducible refine wpl_isDst 12 ?_); refine wpl_dst 12 rfl (.int .i64 (R : Int)) (by go_simp; exact HOR.out) rfl ?_)
      | ((with_reducible refine wpl_isDst 13 ?_); refine S.ldAll 28 _ rfl b1 rfl 0 _ rfl _ Tryz.underlying28 rfl (szIV _) rfl ?_)
      | (go_at_call 61; refine (CR.out _).mono ?_; rintro e wf ⟨v15, rfl, hown, hbf⟩; have HO : Hid _ := hown; have HBF : Hid _ := hbf; clear hown hbf)
      | (go_at_call 60; refine (rising_c 14 _ _ v15 _ HO.out (regsL_len _ _ _ _ _ _)).mono ?_; rintro e wg ⟨u, rfl, hil, hgr⟩; replace S := S.below (below_rise HBF.out HO.out hgr); have HIL : Hid _ := hil; clear hil hgr HO HBF)
      )
    go_ret
    exact ⟨_, rfl, HIL.out, S.low⟩
set_option maxHeartbeats 8000000 in
set_option maxRecDepth 100000 in
theorem writes_c (i : IV) (l : Nat) (hl : i.list = (l : Int)) (hl2 : l < 65536) (w : World) : Calls Tryz.prog 17 #[i.val] w fun e w' => ∃ u, e = .returned u ∧ IL w' u (writesI i l) ∧ Below w.heap.size w w' := by
  have CG : Hid (∀ w1, Calls Tryz.prog 62 #[i.val] w1 fun e w' => e = .returned (.int .i64 (givesN i : Int)) ∧ Below w1.heap.size w1 w') := fun w1 => by
    have h := gives_c i w1
    rw [(gives_n i).1] at h
    exact h
  have CR : Hid (∀ w1, Calls Tryz.prog 61 #[i.val, .int .i64 (givesN i : Int)] w1 fun e w' => RowPost w1 (regsL i.d i.n i.m i.a l (givesN i)) e w') := fun w1 => registers_c i (givesN i) l (gives_n i).2 hl hl2 w1
  have CB : Hid (∀ w1, Calls Tryz.prog 27 #[i.val] w1 fun e w' => e = .returned (.bool (branchesI i l)) ∧ Below w1.heap.size w1 w') := fun w1 => branches_c i l hl hl2 w1
  unfold writesI
  clear hl hl2
  generalize branchesI i l = e1 at *
  generalize givesN i = G at *
  cases e1
  · go_enter Tryz.func17, Tryz.ntmps17
    have S := SH.start w
    go_upto_region 3 with (first
      | ((with_reducible refine wpl_isDst 1 ?_); refine SH.box (L := []) S rfl 28 _ rfl (Cel.iv i) rfl ?_; clear S; intro b1 w1 S)
      | ((with_reducible refine wpl_isDst 3 ?_); refine S.ldAll 28 _ rfl b1 rfl 0 _ rfl _ Tryz.underlying28 rfl (szIV _) rfl ?_)
      | (go_at_call 27; refine (CB.out _).mono ?_; rintro e wf ⟨rfl, hbf⟩; replace S := S.below hbf; clear hbf))
    refine Upto.start (S := fun w' => SH noZ w w' [(b1, Cel.iv i)]) 5 (by kernel_rfl) ?_
    replace S := S.drew
    refine Upto.take (i := 0) (oi := { dst := some 10, op := Op.load 28 (Operand.tmp 1), type := 28, pos := "inst.go:117", after := #[], guard := none }) (v := _) rfl (by kernel_rfl) (by kernel_rfl) (by kernel_rfl) (by kernel_rfl) (fun _ _ _ h => h) (y_loadAll (by rfl) _ _ rfl _ rfl 0 _ rfl _ Tryz.underlying28 rfl (szIV _)) (by exact S) ?_
    simp only [Act.put, List.setIfInBounds_toArray, List.set_cons_zero, List.set_cons_succ]
    refine Upto.take (i := 1) (oi := { dst := some 11, op := Op.load 28 (Operand.tmp 1), type := 28, pos := "inst.go:117", after := #[], guard := none }) (v := _) rfl (by kernel_rfl) (by kernel_rfl) (by kernel_rfl) (by kernel_rfl) (fun _ _ _ h => h) (y_loadAll (by rfl) _ _ rfl _ rfl 0 _ rfl _ Tryz.underlying28 rfl (szIV _)) (by exact S) ?_
    simp only [Act.put, List.setIfInBounds_toArray, List.set_cons_zero, List.set_cons_succ]
    refine Upto.ready (rs := [2]) (by kernel_rfl) (by simp) ?_
    refine Nexts.cons rfl (by decide) (fun K hK => ?_) Nexts.nil
    go_simp
    go_wp2_with (go_at_call 62; refine (CG.out _).mono ?_; rintro e wf ⟨rfl, hbf⟩; replace S := S.below hbf; clear hbf)
    refine hK.out _ _ (by exact S) ?_
    clear hK K
    refine Upto.ready (rs := [3]) (by kernel_rfl) (by simp) ?_
    refine Nexts.cons rfl (by decide) (fun K hK => ?_) Nexts.nil
    go_simp
    go_wp2_with (go_at_call 61; refine (CR.out _).mono ?_; rintro e wf ⟨v15, rfl, hown, hbf⟩; have HO : Hid _ := hown; have HBF : Hid _ := hbf; clear hown hbf)
    refine hK.out _ _ (by exact S.below HBF.out) ?_
    clear hK K
    refine Upto.ready (rs := [4]) (by kernel_rfl) (by simp) ?_
    refine Nexts.cons rfl (by decide) (fun K hK => ?_) Nexts.nil
    go_simp
    go_wp2_with (go_at_call 60; refine (rising_c 14 _ _ v15 _ HO.out (regsL_len _ _ _ _ _ _)).mono ?_; rintro e wg ⟨u, rfl, hil, hgr⟩; replace S := S.below (below_rise HBF.out HO.out hgr); have HIL : Hid _ := hil; clear hil hgr HO HBF)
    refine hK.out _ _ (by exact S) ?_
    clear hK K
    refine Upto.ready (rs := [5]) (by kernel_rfl) (by simp) ?_
    refine Nexts.last rfl (fun K hK => ?_)
    go_simp
    refine hK.out _ _ ?_
    clear hK K
    refine Upto.done (by kernel_rfl) ?_ _
    go_wp2
    go_ret
    exact ⟨_, rfl, HIL.out, S.low⟩
  · go_enter Tryz.func17, Tryz.ntmps17
    have S := SH.start w
    go_upto_region 2 with (first
      | ((with_reducible refine wpl_isDst 1 ?_); refine SH.box (L := []) S rfl 28 _ rfl (Cel.iv i) rfl ?_; clear S; intro b1 w1 S)
      | ((with_reducible refine wpl_isDst 3 ?_); refine S.ldAll 28 _ rfl b1 rfl 0 _ rfl _ Tryz.underlying28 rfl (szIV _) rfl ?_)
      | (go_at_call 27; refine (CB.out _).mono ?_; rintro e wf ⟨rfl, hbf⟩; replace S := S.below hbf; clear hbf))
    refine Upto.start (S := fun w' => SH noZ w w' [(b1, Cel.iv i)]) 5 (by kernel_rfl) ?_
    replace S := S.drew
    refine Upto.take (i := 0) (oi := { dst := some 5, op := Op.load 28 (Operand.tmp 1), type := 28, pos := "inst.go:115", after := #[], guard := none }) (v := _) rfl (by kernel_rfl) (by kernel_rfl) (by kernel_rfl) (by kernel_rfl) (fun _ _ _ h => h) (y_loadAll (by rfl) _ _ rfl _ rfl 0 _ rfl _ Tryz.underlying28 rfl (szIV _)) (by exact S) ?_
    simp only [Act.put, List.setIfInBounds_toArray, List.set_cons_zero, List.set_cons_succ]
    refine Upto.take (i := 1) (oi := { dst := some 6, op := Op.load 28 (Operand.tmp 1), type := 28, pos := "inst.go:115", after := #[], guard := none }) (v := _) rfl (by kernel_rfl) (by kernel_rfl) (by kernel_rfl) (by kernel_rfl) (fun _ _ _ h => h) (y_loadAll (by rfl) _ _ rfl _ rfl 0 _ rfl _ Tryz.underlying28 rfl (szIV _)) (by exact S) ?_
    simp only [Act.put, List.setIfInBounds_toArray, List.set_cons_zero, List.set_cons_succ]
    refine Upto.ready (rs := [2]) (by kernel_rfl) (by simp) ?_
    refine Nexts.cons rfl (by decide) (fun K hK => ?_) Nexts.nil
    go_simp
    go_wp2_with (go_at_call 62; refine (CG.out _).mono ?_; rintro e wf ⟨rfl, hbf⟩; replace S := S.below hbf; clear hbf)
    refine hK.out _ _ (by exact S) ?_
    clear hK K
    refine Upto.ready (rs := [3]) (by kernel_rfl) (by simp) ?_
    refine Nexts.cons rfl (by decide) (fun K hK => ?_) Nexts.nil
    go_simp
    go_wp2_with (go_at_call 61; refine (CR.out _).mono ?_; rintro e wf ⟨v15, rfl, hown, hbf⟩; have HO : Hid _ := hown; have HBF : Hid _ := hbf; clear hown hbf)
    refine hK.out _ _ (by exact S.below HBF.out) ?_
    clear hK K
    refine Upto.ready (rs := [4]) (by kernel_rfl) (by simp) ?_
    refine Nexts.cons rfl (by decide) (fun K hK => ?_) Nexts.nil
    go_simp
    go_wp2_with (go_at_call 60; refine (rising_c 15 _ _ v15 _ HO.out (regsL_len _ _ _ _ _ _)).mono ?_; rintro e wg ⟨u, rfl, hil, hgr⟩; replace S := S.below (below_rise HBF.out HO.out hgr); have HIL : Hid _ := hil; clear hil hgr HO HBF)
    refine hK.out _ _ (by exact S) ?_
    clear hK K
    refine Upto.ready (rs := [5]) (by kernel_rfl) (by simp) ?_
    refine Nexts.last rfl (fun K hK => ?_)
    go_simp
    refine hK.out _ _ ?_
    clear hK K
    refine Upto.done (by kernel_rfl) ?_ _
    go_wp2
    go_ret
    exact ⟨_, rfl, HIL.out, S.low⟩
end Go.Proofs.YtplhblhopaheeaaGreatDoor
namespace Go.Proofs.YtplhblhopaheeaaGreatDoor
open Go.ChangeShapes Go.WideShapes Go.ChangeAt Go.RowKit
set_option maxRecDepth 100000

theorem own : ownKnob Tryz.prog.godebug = none := by kernel_rfl
def laidL : List (String × DataW Unit) := [("sourdine/inst.names", Rows.laid_sourdine_inst_names)]
theorem gTab : Tryz.prog.globalNamed "sourdine/inst.names" = some 0 := by kernel_rfl
theorem tTab : (Tryz.prog.globals[0]?).map (·.type) = some 93 := by kernel_rfl
theorem uTab : Tryz.prog.underlying 93 = some (.array 66 9) := by kernel_rfl
theorem uStr : Tryz.prog.underlying 9 = some .string := by kernel_rfl
theorem cStr : Tryz.prog.cellsOf 9 = 1 := by kernel_rfl
theorem cTab : Tryz.prog.cellsOf 93 = 66 := by kernel_rfl

theorem door_met (os : Os) (args : Array Value) : laidMetH Tryz.prog laidL ((World.doorLaid Tryz.prog 400 os).forCall (fun _ _ => 0) ⟨#[], args, []⟩).memory :=
  laidMetH_of_parts3 (fuel := 8) (laidMet_of_run' 8 (by kernel_rfl) (by kernel_rfl)) (by kernel_rfl) (by kernel_rfl)

def nmL : List (List UInt8) := [[], [97, 110, 100], [101, 111, 114], [115, 117, 98], [114, 115, 98], [97, 100, 100], [97, 100, 99], [115, 98, 99], [116, 115, 116], [116, 101, 113], [99, 109, 112], [99, 109, 110], [111, 114, 114], [109, 111, 118], [98, 105, 99], [109, 118, 110], [111, 114, 110], [108, 115, 108], [108, 115, 114], [97, 115, 114], [114, 111, 114], [109, 117, 108], [109, 108, 97], [109, 108, 115], [117, 109, 117, 108, 108], [115, 109, 117, 108, 108], [117, 109, 108, 97, 108], [115, 109, 108, 97, 108], [117, 100, 105, 118], [115, 100, 105, 118], [109, 111, 118, 116], [117, 98, 102, 120], [115, 98, 102, 120], [98, 102, 105], [99, 108, 122], [114, 98, 105, 116], [114, 101, 118], [114, 101, 118, 49, 54], [114, 101, 118, 115, 104], [115, 120, 116, 98], [115, 120, 116, 104], [117, 120, 116, 98], [117, 120, 116, 104], [97, 100, 114], [108, 100, 114], [108, 100, 114, 98], [108, 100, 114, 104], [108, 100, 114, 115, 98], [108, 100, 114, 115, 104], [115, 116, 114], [115, 116, 114, 98], [115, 116, 114, 104], [108, 100, 109], [115, 116, 109], [98], [98, 108], [98, 120], [98, 108, 120], [99, 98, 122], [99, 98, 110, 122], [105, 116], [110, 111, 112], [115, 118, 99], [98, 107, 112, 116], [117, 110, 100, 101, 102, 105, 110, 101, 100], [117, 110, 112, 114, 101, 100, 105, 99, 116, 97, 98, 108, 101]]
def nmT (k : Nat) : ByteArray := ⟨(nmL.getD k []).toArray⟩
def strData {H : Type} (zs : List (List UInt8)) : DataW H := .agg (zs.map fun z => .lit (.string z))

/-- An array of strings that reads as the table holds the table's strings, cell for cell. -/
theorem cells_of_strs {H : Type} {enc : TypeId × Value → H} {P : Program} {w : World} {base : Nat} {sp : Nat → Bool} {held : Bool} {fuel : Nat} {t e : TypeId} {n : Nat} {cs : List Value} {zs : List (List UInt8)} {p : List MemPlace}
    (ht : P.underlying t = some (.array n e)) (he : P.underlying e = some .string) (hce : P.cellsOf e = 1) (hct : P.cellsOf t = n)
    (h : DataW.trod enc P w base sp held fuel t cs = some (strData zs, p)) : ∀ (i : Nat) (z : List UInt8), zs[i]? = some z → cs[i]? = some (Value.string ⟨z.toArray⟩) := by
  cases fuel with
  | zero => simp [DataW.trod] at h
  | succ fuel =>
    simp only [DataW.trod, ht, hce, hct, Nat.mul_one] at h
    split at h
    · rename_i hl
      obtain ⟨xs, hm, hx⟩ := Option.map_eq_some_iff.1 h
      have hxs : xs.map (·.1) = zs.map fun z => (DataW.lit (.string z) : DataW H) := by
        have := congrArg Prod.fst hx
        simpa [strData] using this
      have hxl : xs.length = n := by simpa using Lib.mapM_length hm
      have hzl : zs.length = n := by
        have := congrArg List.length hxs
        simp at this
        omega
      intro i z hz
      have hi : i < n := by
        have := (List.getElem?_eq_some_iff.1 hz).1
        omega
      obtain ⟨b, hb, hf⟩ := Lib.mapM_at hm i i (by simp [hi])
      obtain ⟨s, hc, rfl, _⟩ := DataW.trod_string he hf
      have h1 : cs[i]? = some (.string s) := by
        have := congrArg (·[0]?) hc
        simpa [List.getElem?_take, List.getElem?_drop] using this
      have h2 : (xs.map (·.1))[i]? = some (DataW.lit (.string s.data.toList) : DataW H) := by simp [hb]
      rw [hxs] at h2
      simp only [List.getElem?_map, hz, Option.map_some, Option.some.injEq, DataW.lit.injEq, Lit.string.injEq] at h2
      rw [h1, h2]
    · cases h

/-- The table lies. -/
def NT (W : World) : Prop := 0 < W.heap.size ∧ ∀ k, k < 66 → W.cell? ⟨0, k, none⟩ = some (.string (nmT k))
theorem NT.below {B : Nat} {w w' : World} (h : NT w) (hb : Below B w w') (hB : 0 < B) : NT w' := ⟨Nat.lt_of_lt_of_le h.1 hb.size, fun k hk => (hb.cell hB).trans (h.2 k hk)⟩
theorem NT.next {w w' : World} (h : NT w) (hb : Below w.heap.size w w') : NT w' := h.below hb h.1

theorem of_laid {W : World} (h : laidMetH Tryz.prog laidL W) : NT W := by
  rw [MakeChecks.laidMetH_plain _ _ _ (by kernel_rfl)] at h
  obtain ⟨ps, ⟨g0, t0, cs0, f0, p0, q0, hg0, ht0, hv0, hd0, _⟩, _, _⟩ := h
  obtain rfl := Option.some.inj (gTab.symm.trans hg0)
  obtain rfl := Option.some.inj (tTab.symm.trans ht0)
  have hd : DataW.trod _ Tryz.prog W 0 _ false f0 93 cs0.toList = some (strData nmL, p0) := hd0
  have hcs := cells_of_strs uTab uStr cStr cTab hd
  have hc : ∀ k, k < 66 → W.cell? ⟨0, k, none⟩ = some (.string (nmT k)) := fun k hk => by
    have := World.var?_cell hg0 hv0 k
    have hk' : nmL[k]? = some (nmL.getD k []) := by
      rw [List.getD, List.getElem?_eq_getElem (show k < nmL.length from hk)]
      rfl
    rw [show cs0[k]? = some (Value.string (nmT k)) by rw [← Array.getElem?_toList, hcs k _ hk']; rfl] at this
    exact this
  refine ⟨World.block_lt_of_cell? W ⟨0, 0, none⟩ (hc 0 (by decide)), hc⟩
end Go.Proofs.YtplhblhopaheeaaGreatDoor
namespace Go.Proofs.YtplhblhopaheeaaGreatDoor
open Go.ChangeShapes Go.WideShapes Go.ChangeAt Go.RowKit
set_option linter.unusedVariables false
set_option linter.unusedSimpArgs false

def nmS (o : Int) : ByteArray := if 0 ≤ o ∧ o < 66 then nmT o.toNat else ⟨#[]⟩
def nmC : List Value := (nmL.drop 1).map fun z => Value.string ⟨z.toArray⟩
theorem nmC_at (k : Nat) (hk : k < 65) : nmC[k]? = some (.string (nmT (k + 1))) := by
  have h : nmL.length = 66 := by decide
  unfold nmC nmT
  rw [List.getElem?_map, List.getElem?_drop, List.getElem?_eq_getElem (by omega)]
  simp [List.getD_eq_getElem?_getD, Nat.add_comm 1 k, List.getElem?_eq_getElem (show k + 1 < nmL.length by omega)]
theorem name_lo (o : Int) (h : o < 0) (w : World) : Calls Tryz.prog 22 #[.int .i64 o] w fun e w' => e = .returned (.string (nmS o)) ∧ w' = w := by
  have hn : nmS o = ⟨#[]⟩ := by unfold nmS; rw [if_neg (by omega)]
  rw [hn]
  clear hn
  go_enter Tryz.func22, Tryz.ntmps22
  go_wp2
  go_ret
  exact ⟨rfl, rfl⟩
theorem name_hi (o : Int) (h : 66 ≤ o) (w : World) : Calls Tryz.prog 22 #[.int .i64 o] w fun e w' => e = .returned (.string (nmS o)) ∧ w' = w := by
  have hn : nmS o = ⟨#[]⟩ := by unfold nmS; rw [if_neg (by omega)]
  rw [hn]
  have h2 : ¬ o < 0 := by omega
  clear hn
  go_enter Tryz.func22, Tryz.ntmps22
  go_wp2
  go_ret
  exact ⟨rfl, rfl⟩
theorem name_in (k : Nat) (hk : k < 66) (w : World) (hc : w.cell? ⟨0, k, none⟩ = some (.string (nmT k))) : Calls Tryz.prog 22 #[.int .i64 (k : Int)] w fun e w' => e = .returned (.string (nmS (k : Int))) ∧ w' = w := by
  have hn : nmS (k : Int) = nmT k := by unfold nmS; rw [if_pos (by omega)]; rfl
  rw [hn]
  have k1 : (0 : Int) ≤ (k : Int) := by omega
  have k2 : (k : Int) < 66 := by omega
  have k3 : ¬ (k : Int) < 0 := by omega
  generalize nmT k = s at *
  clear hn
  go_enter Tryz.func22, Tryz.ntmps22
  go_wp2
  go_ret
  exact ⟨rfl, rfl⟩
theorem name_c (o : Int) (w : World) (hT : NT w) : Calls Tryz.prog 22 #[.int .i64 o] w fun e w' => e = .returned (.string (nmS o)) ∧ w' = w := by
  by_cases h1 : o < 0
  · exact name_lo o h1 w
  · by_cases h2 : 66 ≤ o
    · exact name_hi o h2 w
    · obtain ⟨k, rfl⟩ : ∃ k : Nat, o = (k : Int) := ⟨o.toNat, by omega⟩
      exact name_in k (by omega) w (hT.2 k (by omega))
end Go.Proofs.YtplhblhopaheeaaGreatDoor
namespace Go.Proofs.YtplhblhopaheeaaGreatDoor
open Go.ChangeShapes Go.WideShapes Go.ChangeAt Go.RowKit
set_option linter.unusedVariables false
set_option linter.unusedSimpArgs false

/-! ### Ints, at lists that are alike -/
def intsRel (w : World) (n : Nat) (i : Value) (wr : World) : Prop := ∃ k : Nat, k ≤ n ∧ i = .int .i64 k ∧ Below w.heap.size w wr
set_option maxHeartbeats 4000000 in
set_option maxRecDepth 100000 in
theorem ints_c (xs : List Int) (u v : Value) (w : World) (hu : IL w u xs) (hv : IL w v xs) (hn : xs.length < 1000) : Calls Tryz.prog 24 #[u, v] w fun e w' => e = .returned (.bool true) ∧ Below w.heap.size w w' := by
  obtain ⟨A, c, rfl, hA⟩ := hu
  obtain ⟨B, d, rfl, hB⟩ := hv
  rcases xs with _ | ⟨x0, xs⟩
  · go_enter Tryz.func24, Tryz.ntmps24
    go_upto_region 4 with fail
    go_loopw [5] (fun i wr => i = .int .i64 0 ∧ wr = w) (fun i _ => 0)
    case atStart => exact ⟨rfl, rfl⟩
    case round =>
      obtain ⟨rfl, rfl⟩ := hrel
      go_wp2
      go_ret
      exact ⟨rfl, Below.refl _ _⟩
  · obtain ⟨ba, oa, rfl, _⟩ := hA 0 x0 rfl
    obtain ⟨bb, ob, rfl, _⟩ := hB 0 x0 rfl
    have HA : Hid (∀ j x, (x0 :: xs)[j]? = some x → w.cell? ⟨ba, oa + j, none⟩ = some (.int .i64 x)) := fun j x hx => by
      obtain ⟨b, o, e, h⟩ := hA j x hx
      simp only [Option.some.injEq, Addr.mk.injEq, and_true] at e
      obtain ⟨rfl, rfl⟩ := e
      exact h
    have HB : Hid (∀ j x, (x0 :: xs)[j]? = some x → w.cell? ⟨bb, ob + j, none⟩ = some (.int .i64 x)) := fun j x hx => by
      obtain ⟨b, o, e, h⟩ := hB j x hx
      simp only [Option.some.injEq, Addr.mk.injEq, and_true] at e
      obtain ⟨rfl, rfl⟩ := e
      exact h
    clear hA hB
    generalize hys : x0 :: xs = ys at *
    clear hys
    obtain ⟨n, hN⟩ : ∃ n, n = ys.length := ⟨_, rfl⟩
    have HN : Hid (n = ys.length) := hN
    rw [← hN] at hn ⊢
    clear hN
    go_enter Tryz.func24, Tryz.ntmps24
    go_upto_region 4 with fail
    go_loopw [5] (fun i wr => intsRel w n i wr) (fun i _ => n - (intOf i).toNat)
    case atStart => exact ⟨0, Nat.zero_le _, rfl, Below.refl _ _⟩
    case round =>
      obtain ⟨k, hk, rfl, S⟩ := hrel
      by_cases hlt : k < n
      · have hlt' : (k : Int) < (n : Int) := by omega
        have h0 : 0 ≤ (k : Int) := by omega
        obtain ⟨x, hx⟩ : ∃ x, ys[k]? = some x := ⟨ys[k]'(by have := HN.out; omega), List.getElem?_eq_getElem (by have := HN.out; omega)⟩
        have HXA : Hid (w.cell? ⟨ba, oa + k, none⟩ = some (.int .i64 x)) := HA.out k x hx
        have HXB : Hid (w.cell? ⟨bb, ob + k, none⟩ = some (.int .i64 x)) := HB.out k x hx
        clear hx
        go_upto_region 6 with fail
        refine wp_region_held_drew (S := fun w' => Below w.heap.size w w') (by kernel_rfl) (by first | exact S.drew | exact S.drew.dropR) (fun _ => ?_)
        replace S := S.drew
        refine wpAnyH_take (i := 0) (oi := { dst := some 17, op := Op.move (Operand.tmp 0), type := 51, pos := "sourdinehelp.go:29", after := #[], guard := none }) (v := ?_) rfl (by kernel_rfl) (by kernel_rfl) (by kernel_rfl) (fun _ _ _ h => h) (Or.inl ⟨by rfl, ?_⟩) (by exact (by assumption)) ?_
        rotate_left 1
        · intro w hSw
          clear hSw
          go_simp
          try with_reducible rfl
        simp only [Act.put, List.setIfInBounds_toArray, List.set_cons_zero, List.set_cons_succ]
        refine wpAnyH_take (i := 1) (oi := { dst := some 18, op := Op.move (Operand.tmp 5), type := 3, pos := "sourdinehelp.go:29", after := #[], guard := none }) (v := ?_) rfl (by kernel_rfl) (by kernel_rfl) (by kernel_rfl) (fun _ _ _ h => h) (Or.inl ⟨by rfl, ?_⟩) (by exact (by assumption)) ?_
        rotate_left 1
        · intro w hSw
          clear hSw
          go_simp
          try with_reducible rfl
        simp only [Act.put, List.setIfInBounds_toArray, List.set_cons_zero, List.set_cons_succ]
        refine wpAnyH_take (i := 2) (oi := { dst := some 19, op := Op.indexAddr 51 (Operand.tmp 17) (Operand.tmp 18), type := 0, pos := "sourdinehelp.go:29", after := #[{ on := 0, ground := Ground.data }, { on := 1, ground := Ground.data }], guard := none }) (v := ?_) rfl (by kernel_rfl) (by kernel_rfl) (by kernel_rfl) (fun _ _ _ h => h) (Or.inl ⟨by rfl, ?_⟩) (by exact (by assumption)) ?_
        rotate_left 1
        · intro w hSw
          clear hSw
          go_simp
          try with_reducible rfl
        simp only [Act.put, List.setIfInBounds_toArray, List.set_cons_zero, List.set_cons_succ]
        refine wpAnyH_take (i := 3) (oi := { dst := some 20, op := Op.load 3 (Operand.tmp 19), type := 3, pos := "sourdinehelp.go:29", after := #[{ on := 2, ground := Ground.data }], guard := none }) (v := _) rfl (by kernel_rfl) (by kernel_rfl) (by kernel_rfl) (fun _ _ _ h => h) (y_cell (by rfl) 3 _ rfl ba (oa + k) rfl (.int .i64 x) (fun _ h => Below.cellAt h HXA.out) _ Tryz.underlying3 rfl) (by exact (by assumption)) ?_
        simp only [Act.put, List.setIfInBounds_toArray, List.set_cons_zero, List.set_cons_succ]
        refine wpAnyH_take (i := 4) (oi := { dst := some 21, op := Op.move (Operand.tmp 1), type := 51, pos := "sourdinehelp.go:29", after := #[], guard := none }) (v := ?_) rfl (by kernel_rfl) (by kernel_rfl) (by kernel_rfl) (fun _ _ _ h => h) (Or.inl ⟨by rfl, ?_⟩) (by exact (by assumption)) ?_
        rotate_left 1
        · intro w hSw
          clear hSw
          go_simp
          try with_reducible rfl
        simp only [Act.put, List.setIfInBounds_toArray, List.set_cons_zero, List.set_cons_succ]
        refine wpAnyH_take (i := 5) (oi := { dst := some 22, op := Op.move (Operand.tmp 5), type := 3, pos := "sourdinehelp.go:29", after := #[], guard := none }) (v := ?_) rfl (by kernel_rfl) (by kernel_rfl) (by kernel_rfl) (fun _ _ _ h => h) (Or.inl ⟨by rfl, ?_⟩) (by exact (by assumption)) ?_
        rotate_left 1
        · intro w hSw
          clear hSw
          go_simp
          try with_reducible rfl
        simp only [Act.put, List.setIfInBounds_toArray, List.set_cons_zero, List.set_cons_succ]
        refine wpAnyH_take (i := 6) (oi := { dst := some 23, op := Op.indexAddr 51 (Operand.tmp 21) (Operand.tmp 22), type := 0, pos := "sourdinehelp.go:29", after := #[{ on := 4, ground := Ground.data }, { on := 5, ground := Ground.data }], guard := none }) (v := ?_) rfl (by kernel_rfl) (by kernel_rfl) (by kernel_rfl) (fun _ _ _ h => h) (Or.inl ⟨by rfl, ?_⟩) (by exact (by assumption)) ?_
        rotate_left 1
        · intro w hSw
          clear hSw
          go_simp
          try with_reducible rfl
        simp only [Act.put, List.setIfInBounds_toArray, List.set_cons_zero, List.set_cons_succ]
        refine wpAnyH_take (i := 7) (oi := { dst := some 24, op := Op.load 3 (Operand.tmp 23), type := 3, pos := "sourdinehelp.go:29", after := #[{ on := 6, ground := Ground.data }], guard := none }) (v := _) rfl (by kernel_rfl) (by kernel_rfl) (by kernel_rfl) (fun _ _ _ h => h) (y_cell (by rfl) 3 _ rfl bb (ob + k) rfl (.int .i64 x) (fun _ h => Below.cellAt h HXB.out) _ Tryz.underlying3 rfl) (by exact (by assumption)) ?_
        simp only [Act.put, List.setIfInBounds_toArray, List.set_cons_zero, List.set_cons_succ]
        refine wpAnyH_take (i := 8) (oi := { dst := some 25, op := Op.binOp BinOp.neq 3 (Operand.tmp 20) (Operand.tmp 24) 3, type := 4, pos := "sourdinehelp.go:29", after := #[{ on := 3, ground := Ground.data }, { on := 7, ground := Ground.data }], guard := none }) (v := ?_) rfl (by kernel_rfl) (by kernel_rfl) (by kernel_rfl) (fun _ _ _ h => h) (Or.inl ⟨by rfl, ?_⟩) (by exact (by assumption)) ?_
        rotate_left 1
        · intro w hSw
          clear hSw
          go_simp
          try with_reducible rfl
        simp only [Act.put, List.setIfInBounds_toArray, List.set_cons_zero, List.set_cons_succ]
        refine wpAnyH_done (by kernel_rfl) ?_ _
        go_wp2
        go_roundw
        case rel => exact ⟨k + 1, hlt, by push_cast; rfl, S⟩
        case measure =>
          simp only [intOf]
          omega
      · have hlt' : ¬ (k : Int) < (n : Int) := by omega
        go_wp2
        go_ret
        exact ⟨rfl, S⟩
end Go.Proofs.YtplhblhopaheeaaGreatDoor
namespace Go.Proofs.YtplhblhopaheeaaGreatDoor
open Go.ChangeShapes Go.WideShapes Go.ChangeAt Go.RowKit
set_option linter.unusedVariables false
set_option linter.unusedSimpArgs false

def maskL (M : Nat) (pc : Bool) (k : Nat) : List Int := ((List.range k).filter fun r => M.testBit r && (decide (r < 15) || pc)).map fun r : Nat => (r : Int)
theorem maskL_len (M : Nat) (pc : Bool) (k : Nat) : (maskL M pc k).length ≤ k := by
  unfold maskL
  rw [List.length_map]
  exact Nat.le_trans (List.length_filter_le _ _) (by simp)
theorem maskL_succ (M : Nat) (pc : Bool) (k : Nat) : maskL M pc (k + 1) = maskL M pc k ++ (bif (M.testBit k && (decide (k < 15) || pc)) then [(k : Int)] else []) := by
  unfold maskL
  rw [List.range_succ, List.filter_append, List.map_append]
  congr 1
  cases h : (M.testBit k && (decide (k < 15) || pc)) <;> simp [h]
theorem maskL_mem (M : Nat) (pc : Bool) (k : Nat) (x : Int) : x ∈ maskL M pc k ↔ ∃ r : Nat, r < k ∧ M.testBit r = true ∧ (r < 15 ∨ pc = true) ∧ x = (r : Int) := by
  unfold maskL
  simp only [List.mem_map, List.mem_filter, List.mem_range, Bool.and_eq_true, Bool.or_eq_true, decide_eq_true_eq]
  constructor
  · rintro ⟨r, ⟨h1, h2, h3⟩, rfl⟩
    exact ⟨r, h1, h2, h3, rfl⟩
  · rintro ⟨r, h1, h2, h3, rfl⟩
    exact ⟨r, ⟨h1, h2, h3⟩, rfl⟩
theorem il_own {w : World} {base : Nat} {v : Value} {xs : List Int} (h : w.ownsRow base 3 1 v xs.length (ic xs)) : IL w v xs := by
  have h' := h
  rcases h.2 with ⟨h2, h3⟩ | ⟨g, cap, cur, h2, _⟩
  · subst h2
    have hx : xs = [] := List.eq_nil_of_length_eq_zero h3
    subst hx
    exact il_nil w none 0
  · subst h2
    exact il_holds (own_holds h').1
def lsRel (w : World) (M : Nat) (pc : Bool) (v k : Value) (wr : World) : Prop := ∃ j : Nat, j ≤ 16 ∧ k = .int .i64 j ∧ SH (rowZ w.heap.size 3 v (ic (maskL M pc j))) w wr []
set_option maxHeartbeats 8000000 in
set_option maxRecDepth 100000 in
theorem rlist_c (M : Nat) (pc : Bool) (hM : M < 65536) (w : World) : Calls Tryz.prog 81 #[.int .i64 (M : Int), .bool pc] w fun e w' => ∃ u, e = .returned u ∧ IL w' u (maskL M pc 16) ∧ Below w.heap.size w w' := by
  have HB : Hid (∀ k : Nat, bits .and .i64 ((M : Int) / 2 ^ k) 1 = bif M.testBit k then 1 else 0) := fun k => bit1 M k hM
  have hM0 : 0 ≤ (M : Int) := by omega
  have hM3 : (M : Int) < 65536 := by omega
  clear hM
  go_enter Tryz.func81, Tryz.ntmps81
  have S := SH.start w
  go_upto_region 3 with fail
  have ST : Hid (lsRel w M pc (.slice none 0 0) (.int .i64 0) w) := ⟨0, Nat.zero_le _, rfl, S.rowNil _⟩
  clear S
  go_loopw [5, 6] (fun v k wr => lsRel w M pc v k wr) (fun _ k _ => 16 - (intOf k).toNat)
  case atStart => exact ST.out
  case round =>
    clear ST
    obtain ⟨r, hr, rfl, S⟩ := hrel
    by_cases hlt2 : r < 16
    · have hr2 : (r : Int) < 16 := by omega
      have hr0 : 0 ≤ (r : Int) := by omega
      have hlen := maskL_len M pc r
      have HS := maskL_succ M pc r
      have hb := HB.out r
      cases hrb : M.testBit r
      · have HF : Hid (maskL M pc (r + 1) = maskL M pc r) := by
          show _ = _
          rw [HS]
          simp [hrb]
        clear HS hlen
        simp only [hrb, cond_false] at hb
        go_wp2_with ((with_reducible refine wpl_isDst 14 ?_); refine wpl_dst 14 rfl (.int .i64 0) (by go_simp; exact hb) rfl ?_)
        go_roundw
        case rel => exact ⟨r + 1, hlt2, by push_cast; rfl, by rw [HF.out]; exact S⟩
        case measure =>
          simp only [intOf]
          omega
      · by_cases h15 : r < 15
        · have h15' : (r : Int) < 15 := by omega
          have HF : Hid (maskL M pc (r + 1) = maskL M pc r ++ [(r : Int)]) := by
            show _ = _
            rw [HS]
            simp [hrb, h15]
          clear HS
          simp only [hrb, cond_true] at hb
          go_wp2_with (first
            | ((with_reducible refine wpl_isDst 14 ?_); refine wpl_dst 14 rfl (.int .i64 1) (by go_simp; exact hb) rfl ?_)
            | ((with_reducible refine wpl_isDst 25 ?_); refine SH.sliceQ (L := []) S rfl 51 1 _ rfl (ic [(r : Int)]) 3 (by kernel_rfl) ?_; clear S; intro g52 w52 S)
            | ((with_reducible refine wpl_isDst 26 ?_); refine S.appendG rfl 51 _ _ rfl Tryz.underlying51 (.int .i64 0) 8 infoInt rfl rfl g52 1 1 rfl 0 (ic [(r : Int)]) rfl rfl (ic_one _) (by decide) (by rw [ic_length]; omega) (by rw [ic_length]; omega) ?_; clear S; intro g53 c53 w53 S))
          go_roundw
          case rel =>
            have S1 := S.fewer 1
            rw [← ic_append, ← HF.out] at S1
            exact ⟨r + 1, hlt2, by push_cast; rfl, S1⟩
          case measure =>
            simp only [intOf]
            omega
        · have h15' : ¬ (r : Int) < 15 := by omega
          cases pc
          · have HF : Hid (maskL M false (r + 1) = maskL M false r) := by
              show _ = _
              rw [HS]
              simp [hrb, h15]
            clear HS hlen
            simp only [hrb, cond_true] at hb
            go_wp2_with ((with_reducible refine wpl_isDst 14 ?_); refine wpl_dst 14 rfl (.int .i64 1) (by go_simp; exact hb) rfl ?_)
            go_roundw
            case rel => exact ⟨r + 1, hlt2, by push_cast; rfl, by rw [HF.out]; exact S⟩
            case measure =>
              simp only [intOf]
              omega
          · have HF : Hid (maskL M true (r + 1) = maskL M true r ++ [(r : Int)]) := by
              show _ = _
              rw [HS]
              simp [hrb, h15]
            clear HS
            simp only [hrb, cond_true] at hb
            go_wp2_with (first
              | ((with_reducible refine wpl_isDst 14 ?_); refine wpl_dst 14 rfl (.int .i64 1) (by go_simp; exact hb) rfl ?_)
              | ((with_reducible refine wpl_isDst 25 ?_); refine SH.sliceQ (L := []) S rfl 51 1 _ rfl (ic [(r : Int)]) 3 (by kernel_rfl) ?_; clear S; intro g52 w52 S)
              | ((with_reducible refine wpl_isDst 26 ?_); refine S.appendG rfl 51 _ _ rfl Tryz.underlying51 (.int .i64 0) 8 infoInt rfl rfl g52 1 1 rfl 0 (ic [(r : Int)]) rfl rfl (ic_one _) (by decide) (by rw [ic_length]; omega) (by rw [ic_length]; omega) ?_; clear S; intro g53 c53 w53 S))
            go_roundw
            case rel =>
              have S1 := S.fewer 1
              rw [← ic_append, ← HF.out] at S1
              exact ⟨r + 1, hlt2, by push_cast; rfl, S1⟩
            case measure =>
              simp only [intOf]
              omega
    · have hr16 : r = 16 := by omega
      subst hr16
      have OUT := S.rowOut
      rw [ic_length] at OUT
      have OUT' : Hid (IL wr u5 (maskL M pc 16) ∧ Below w.heap.size w wr) := ⟨il_own OUT.1, OUT.2⟩
      clear OUT S
      simp only [show ((16 : Nat) : Int) = 16 from rfl]
      go_wp2
      go_ret
      exact ⟨_, rfl, OUT'.out.1, OUT'.out.2⟩
end Go.Proofs.YtplhblhopaheeaaGreatDoor
namespace Go.Proofs.YtplhblhopaheeaaGreatDoor
open Go.ChangeShapes Go.WideShapes Go.ChangeAt Go.RowKit
set_option linter.unusedVariables false
set_option linter.unusedSimpArgs false

def maskOf (pd pn pm pa l W : Nat) : Nat := (bif W.testBit 0 then pd else 0) ||| (bif W.testBit 1 then pn else 0) ||| (bif W.testBit 2 then pm else 0) ||| (bif W.testBit 3 then pa else 0) ||| (bif W.testBit 4 then l else 0) ||| (bif W.testBit 5 then 1 else 0) ||| (bif W.testBit 6 then 16384 else 0) ||| (bif W.testBit 7 then 32768 else 0)
theorem or_lt {a b : Nat} (ha : a < 65536) (hb : b < 65536) : a ||| b < 65536 := Nat.or_lt_two_pow (n := 16) ha hb
theorem orC {a b : Nat} (ha : a < 65536) (hb : b < 65536) : bits .or .i64 (a : Int) (b : Int) = ((a ||| b : Nat) : Int) := (bits64 _ _ (by omega) (by omega)).2
theorem or0 {b : Nat} (hb : b < 65536) : bits .or .i64 0 (b : Int) = (b : Int) := by
  have := orC (a := 0) (by omega) hb
  simpa using this
theorem or0l : bits .or .i64 0 1 = ((1 : Nat) : Int) := rfl
theorem w2 (n : Nat) (hn : n < 16) : wrap64 ((2 : Int) ^ n) = ((2 ^ n : Nat) : Int) ∧ 2 ^ n < 65536 := by
  have h : ∀ n : Fin 16, wrap64 ((2 : Int) ^ n.val) = ((2 ^ n.val : Nat) : Int) ∧ 2 ^ n.val < 65536 := by decide +kernel
  exact h ⟨n, hn⟩
end Go.Proofs.YtplhblhopaheeaaGreatDoor
namespace Go.Proofs.YtplhblhopaheeaaGreatDoor
open Go.ChangeShapes Go.WideShapes Go.ChangeAt Go.RowKit
set_option linter.unusedVariables false
set_option linter.unusedSimpArgs false

theorem or014 : bits .or .i64 0 16384 = ((16384 : Nat) : Int) := rfl
theorem or015 : bits .or .i64 0 32768 = ((32768 : Nat) : Int) := rfl
theorem k14 : (16384 : Nat) < 65536 := by decide
theorem orK14 {a : Nat} (ha : a < 65536) : bits .or .i64 (a : Int) 16384 = ((a ||| 16384 : Nat) : Int) := orC ha (by decide)
theorem orK15 {a : Nat} (ha : a < 65536) : bits .or .i64 (a : Int) 32768 = ((a ||| 32768 : Nat) : Int) := orC ha (by decide)
theorem or15 (l : Nat) (h : l.testBit 15 = true) : l ||| 32768 = l := by
  apply Nat.eq_of_testBit_eq
  intro j
  rw [Nat.testBit_or, show (32768 : Nat) = 2 ^ 15 from rfl, Nat.testBit_two_pow]
  by_cases e : 15 = j
  · subst e
    simp [h]
  · simp [e]
theorem orT (l p : Nat) (h : l ||| 32768 = l) : l ||| p ||| 32768 = p ||| l := by
  rw [show l ||| p ||| 32768 = p ||| (l ||| 32768) by ac_rfl, h]
theorem orT0 (l : Nat) (h : l ||| 32768 = l) : l ||| 32768 = l := h
end Go.Proofs.YtplhblhopaheeaaGreatDoor
