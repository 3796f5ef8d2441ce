/- Stage 7: Branches, Sets, Reads, Writes. -/
import Derived.Test.YtbbkiiabjhgpkaaDoorIn8
import Derived.Deep.Cut
namespace Go.Proofs.YtbbkiiabjhgpkaaDoor
open Go.ChangeShapes Go.WideShapes Go.ChangeAt Go.RowKit
set_option linter.unusedVariables false
set_option linter.unusedSimpArgs false

def branchesI (i : IV) (l : Nat) : Bool := classS i.op == 6 || (i.op == 52 && l.testBit 15)
def setsI (i : IV) : Int := if (!i.s && !comparesS i.op) = true then 0 else if sumsS i.op = true then 15 else if (i.op == 21) = true then 12 else if shiftsS i.op = true then 14 else if (classS i.op == 1) = false then 0 else if carriesS i = true then 14 else 12
theorem takes_b (i : IV) : 0 ≤ takesS i ∧ takesS i < 256 := by
  have h1 := dt_b i.op
  have h2 := lt_b i.op
  have h3 : secondS i = 0 ∨ secondS i = 4 := by unfold secondS; split <;> simp
  have h4 : 0 ≤ unaryTakesS i.op ∧ unaryTakesS i.op < 256 := by unfold unaryTakesS; (repeat' split) <;> omega
  have h5 : 0 ≤ restTakesS i.op ∧ restTakesS i.op < 256 := by unfold restTakesS; (repeat' split) <;> omega
  unfold takesS
  (repeat' split) <;> omega
theorem gives_b (i : IV) : 0 ≤ givesS i ∧ givesS i < 256 := by
  have h5 : 0 ≤ restGivesS i.op ∧ restGivesS i.op < 256 := by unfold restGivesS; (repeat' split) <;> omega
  have h6 : 0 ≤ manyGivesS i ∧ manyGivesS i < 256 := by unfold manyGivesS; (repeat' split) <;> omega
  unfold givesS
  (repeat' split) <;> omega
def takesN (i : IV) : Nat := (takesS i).toNat
def givesN (i : IV) : Nat := (givesS i).toNat
theorem takes_n (i : IV) : takesS i = (takesN i : Int) ∧ takesN i < 256 := by
  have := takes_b i
  unfold takesN
  omega
theorem gives_n (i : IV) : givesS i = (givesN i : Int) ∧ givesN i < 256 := by
  have := gives_b i
  unfold givesN
  omega
def readsW (i : IV) : Nat := bif i.cond == 14 then takesN i else takesN i ||| givesN i
theorem readsW_lt (i : IV) : readsW i < 256 := by
  unfold readsW
  cases i.cond == 14
  · exact Nat.or_lt_two_pow (n := 8) (takes_n i).2 (gives_n i).2
  · exact (takes_n i).2
theorem regsL_len (d n m a : Int) (l W : Nat) : (regsL d n m a l W).length < 1000 := by
  have h1 := fourP_len d n m a W 4
  have h2 := listL_len W l 16
  have h3 := restP_len W 3
  simp only [fourP] at h1
  simp only [restP] at h3
  unfold regsL
  rw [List.length_append, List.length_append]
  omega
def readsI (i : IV) (l : Nat) : List Int := riseL 14 (regsL i.d i.n i.m i.a l (readsW i))
def writesI (i : IV) (l : Nat) : List Int := riseL (bif branchesI i l then 15 else 14) (regsL i.d i.n i.m i.a l (givesN i))
/-- What rising leaves of a row that a call has just laid. -/
theorem below_rise {w1 w2 w3 : World} {v : Value} {xs : List Int} (hb : Below w1.heap.size w1 w2) (hown : w2.ownsRow w1.heap.size 3 1 v xs.length (ic xs)) (hg : w2.grownBy w3 v.ownBlock) : Below w1.heap.size w1 w3 :=
  ⟨hg.os.trans hb.os, hg.tape.trans hb.tape, hg.output.trans hb.output, Nat.le_trans hb.size hg.size, fun k hk => (hg.block k (Nat.lt_of_lt_of_le hk hb.size) (fun e => by
    have := (World.ownsRow.lt hown k e.symm).1
    omega)).trans (hb.block k hk)⟩
set_option maxHeartbeats 8000000 in
set_option maxRecDepth 100000 in
theorem branches_c (i : IV) (l : Nat) (hl : i.list = (l : Int)) (hl2 : l < 65536) (w : World) : Calls Tryd.prog 20 #[i.val] w fun e w' => e = .returned (.bool (branchesI i l)) ∧ Below w.heap.size w w' := by
  have CC : Hid (∀ w1, Calls Tryd.prog 8 #[.int .i64 i.op] w1 fun e w' => e = .returned (.int .i64 (classS i.op)) ∧ w' = w1) := fun w1 => class_c i.op w1
  have hb : bits .and .i64 ((l : Int) / 2 ^ 15) 1 = bif l.testBit 15 then 1 else 0 := bit1 l 15 hl2
  have HLS : Hid ((Cel.iv i).cells[12]? = some (.int .i64 (l : Int))) := by
    show some (Value.int .i64 i.list) = _
    rw [hl]
  have hl0 : 0 ≤ (l : Int) := by omega
  simp only [show (2 : Int) ^ 15 = 32768 from rfl] at hb
  unfold branchesI
  clear hl hl2
  generalize classS i.op = c at *
  cases e1 : (c == 6)
  · cases e2 : (i.op == 52)
    · go_enter Tryd.func20, Tryd.ntmps20
      have S := SH.start w
      go_wp2_with (first
        | ((with_reducible refine wpl_isDst 1 ?_); refine SH.box (L := []) S rfl 31 _ rfl (Cel.iv i) rfl ?_; clear S; intro b1 w1 S)
        | ((with_reducible refine wpl_isDst 4 ?_); refine S.ld 3 _ rfl b1 0 rfl 0 _ rfl _ rfl _ Tryd.underlying3 rfl rfl ?_)
        | (go_at_call 8; refine (CC.out _).mono ?_; rintro e wf ⟨rfl, rfl⟩)
        | ((with_reducible refine wpl_isDst 9 ?_); first | (refine wpl_skip rfl ?_) | refine S.ld 3 _ rfl b1 0 rfl 0 _ rfl _ rfl _ Tryd.underlying3 rfl rfl ?_)
        | ((with_reducible refine wpl_isDst 13 ?_); first | (refine wpl_skip rfl ?_) | refine S.ld 3 _ rfl b1 12 rfl 0 _ rfl (.int .i64 l) HLS.out _ Tryd.underlying3 rfl rfl ?_)
        | ((with_reducible refine wpl_isDst 15 ?_); first | (refine wpl_skip rfl ?_) | refine wpl_dst 15 rfl (.int .i64 0) (by go_simp; exact hb) rfl ?_)
        )
      go_ret
      exact ⟨rfl, S.low⟩
    · cases e3 : l.testBit 15
      · rw [e3] at hb
        simp only [cond_false] at hb
        go_enter Tryd.func20, Tryd.ntmps20
        have S := SH.start w
        go_wp2_with (first
          | ((with_reducible refine wpl_isDst 1 ?_); refine SH.box (L := []) S rfl 31 _ rfl (Cel.iv i) rfl ?_; clear S; intro b1 w1 S)
          | ((with_reducible refine wpl_isDst 4 ?_); refine S.ld 3 _ rfl b1 0 rfl 0 _ rfl _ rfl _ Tryd.underlying3 rfl rfl ?_)
          | (go_at_call 8; refine (CC.out _).mono ?_; rintro e wf ⟨rfl, rfl⟩)
          | ((with_reducible refine wpl_isDst 9 ?_); first | (refine wpl_skip rfl ?_) | refine S.ld 3 _ rfl b1 0 rfl 0 _ rfl _ rfl _ Tryd.underlying3 rfl rfl ?_)
          | ((with_reducible refine wpl_isDst 13 ?_); first | (refine wpl_skip rfl ?_) | refine S.ld 3 _ rfl b1 12 rfl 0 _ rfl (.int .i64 l) HLS.out _ Tryd.underlying3 rfl rfl ?_)
          | ((with_reducible refine wpl_isDst 15 ?_); first | (refine wpl_skip rfl ?_) | refine wpl_dst 15 rfl (.int .i64 0) (by go_simp; exact hb) rfl ?_)
          )
        go_ret
        exact ⟨rfl, S.low⟩
      · rw [e3] at hb
        simp only [cond_true] at hb
        go_enter Tryd.func20, Tryd.ntmps20
        have S := SH.start w
        go_wp2_with (first
          | ((with_reducible refine wpl_isDst 1 ?_); refine SH.box (L := []) S rfl 31 _ rfl (Cel.iv i) rfl ?_; clear S; intro b1 w1 S)
          | ((with_reducible refine wpl_isDst 4 ?_); refine S.ld 3 _ rfl b1 0 rfl 0 _ rfl _ rfl _ Tryd.underlying3 rfl rfl ?_)
          | (go_at_call 8; refine (CC.out _).mono ?_; rintro e wf ⟨rfl, rfl⟩)
          | ((with_reducible refine wpl_isDst 9 ?_); first | (refine wpl_skip rfl ?_) | refine S.ld 3 _ rfl b1 0 rfl 0 _ rfl _ rfl _ Tryd.underlying3 rfl rfl ?_)
          | ((with_reducible refine wpl_isDst 13 ?_); first | (refine wpl_skip rfl ?_) | refine S.ld 3 _ rfl b1 12 rfl 0 _ rfl (.int .i64 l) HLS.out _ Tryd.underlying3 rfl rfl ?_)
          | ((with_reducible refine wpl_isDst 15 ?_); first | (refine wpl_skip rfl ?_) | refine wpl_dst 15 rfl (.int .i64 1) (by go_simp; exact hb) rfl ?_)
          )
        go_ret
        exact ⟨rfl, S.low⟩
  · go_enter Tryd.func20, Tryd.ntmps20
    have S := SH.start w
    go_wp2_with (first
      | ((with_reducible refine wpl_isDst 1 ?_); refine SH.box (L := []) S rfl 31 _ rfl (Cel.iv i) rfl ?_; clear S; intro b1 w1 S)
      | ((with_reducible refine wpl_isDst 4 ?_); refine S.ld 3 _ rfl b1 0 rfl 0 _ rfl _ rfl _ Tryd.underlying3 rfl rfl ?_)
      | (go_at_call 8; refine (CC.out _).mono ?_; rintro e wf ⟨rfl, rfl⟩)
      | ((with_reducible refine wpl_isDst 9 ?_); first | (refine wpl_skip rfl ?_) | refine S.ld 3 _ rfl b1 0 rfl 0 _ rfl _ rfl _ Tryd.underlying3 rfl rfl ?_)
      | ((with_reducible refine wpl_isDst 13 ?_); first | (refine wpl_skip rfl ?_) | refine S.ld 3 _ rfl b1 12 rfl 0 _ rfl (.int .i64 l) HLS.out _ Tryd.underlying3 rfl rfl ?_)
      | ((with_reducible refine wpl_isDst 15 ?_); first | (refine wpl_skip rfl ?_) | refine wpl_dst 15 rfl (.int .i64 0) (by go_simp; exact hb) rfl ?_)
      )
    go_ret
    exact ⟨rfl, S.low⟩
set_option maxHeartbeats 8000000 in
set_option maxRecDepth 100000 in
theorem sets_c (i : IV) (w : World) : Calls Tryd.prog 18 #[i.val] w fun e w' => e = .returned (.int .i64 (setsI i)) ∧ Below w.heap.size w w' := by
  have CC : Hid (∀ w1, Calls Tryd.prog 8 #[.int .i64 i.op] w1 fun e w' => e = .returned (.int .i64 (classS i.op)) ∧ w' = w1) := fun w1 => class_c i.op w1
  have C1 : Hid (∀ w1, Calls Tryd.prog 38 #[.int .i64 i.op] w1 fun e w' => e = .returned (.bool (comparesS i.op)) ∧ w' = w1) := fun w1 => compares_c i.op w1
  have C2 : Hid (∀ w1, Calls Tryd.prog 39 #[.int .i64 i.op] w1 fun e w' => e = .returned (.bool (sumsS i.op)) ∧ w' = w1) := fun w1 => sums_c i.op w1
  have C3 : Hid (∀ w1, Calls Tryd.prog 37 #[.int .i64 i.op] w1 fun e w' => e = .returned (.bool (shiftsS i.op)) ∧ w' = w1) := fun w1 => shifts_c i.op w1
  have C4 : Hid (∀ w1, Calls Tryd.prog 40 #[i.val] w1 fun e w' => e = .returned (.bool (carriesS i)) ∧ Below w1.heap.size w1 w') := fun w1 => (carries_c i w1).mono fun e w' h => ⟨h.1, by rw [h.2]; exact low_one _ _⟩
  unfold setsI
  obtain ⟨sb, hsb⟩ : ∃ x, i.s = x := ⟨_, rfl⟩
  generalize hq1 : comparesS i.op = q1 at *
  generalize hq2 : sumsS i.op = q2 at *
  generalize hq3 : shiftsS i.op = q3 at *
  generalize hq4 : classS i.op = q4 at *
  generalize hq5 : carriesS i = q5 at *
  have HS : Hid ((Cel.iv i).cells[2]? = some (.bool sb)) := by
    show some (Value.bool i.s) = _
    rw [hsb]
  rw [hsb]
  clear hq1 hq2 hq3 hq4 hq5 hsb
  cases sb
  · cases q1
    · go_enter Tryd.func18, Tryd.ntmps18
      have S := SH.start w
      go_wp2_with (first
        | ((with_reducible refine wpl_isDst 1 ?_); refine SH.box (L := []) S rfl 31 _ rfl (Cel.iv i) rfl ?_; clear S; intro b1 w1 S)
        | ((with_reducible refine wpl_isDst 5 ?_); refine S.ld 4 _ rfl b1 2 rfl 0 _ rfl (.bool _) HS.out _ Tryd.underlying4 rfl rfl ?_)
        | ((with_reducible refine wpl_isDst 9 ?_); first | (refine wpl_skip rfl ?_) | refine S.ld 3 _ rfl b1 0 rfl 0 _ rfl _ rfl _ Tryd.underlying3 rfl rfl ?_)
        | (go_at_call 38; refine (C1.out _).mono ?_; rintro e wf ⟨rfl, rfl⟩)
        | ((with_reducible refine wpl_isDst 15 ?_); refine S.ld 3 _ rfl b1 0 rfl 0 _ rfl _ rfl _ Tryd.underlying3 rfl rfl ?_)
        | (go_at_call 39; refine (C2.out _).mono ?_; rintro e wf ⟨rfl, rfl⟩)
        | ((with_reducible refine wpl_isDst 19 ?_); refine S.ld 3 _ rfl b1 0 rfl 0 _ rfl _ rfl _ Tryd.underlying3 rfl rfl ?_)
        | ((with_reducible refine wpl_isDst 23 ?_); refine S.ld 3 _ rfl b1 0 rfl 0 _ rfl _ rfl _ Tryd.underlying3 rfl rfl ?_)
        | (go_at_call 37; refine (C3.out _).mono ?_; rintro e wf ⟨rfl, rfl⟩)
        | ((with_reducible refine wpl_isDst 27 ?_); refine S.ld 3 _ rfl b1 0 rfl 0 _ rfl _ rfl _ Tryd.underlying3 rfl rfl ?_)
        | (go_at_call 8; refine (CC.out _).mono ?_; rintro e wf ⟨rfl, rfl⟩)
        | ((with_reducible refine wpl_isDst 31 ?_); refine S.ldAll 31 _ rfl b1 rfl 0 _ rfl _ Tryd.underlying31 rfl (szIV _) rfl ?_)
        | (go_at_call 40; refine (C4.out _).mono ?_; rintro e wf ⟨rfl, hbf⟩; replace S := S.below hbf; clear hbf)
        )
      (try simp only [Exit.inBlock, Exit.then])
      go_ret
      exact ⟨by simp [*], S.low⟩
    · cases q2
      · cases e3 : (i.op == 21)
        · cases q3
          · cases e4 : (q4 == 1)
            · go_enter Tryd.func18, Tryd.ntmps18
              have S := SH.start w
              go_wp2_with (first
                | ((with_reducible refine wpl_isDst 1 ?_); refine SH.box (L := []) S rfl 31 _ rfl (Cel.iv i) rfl ?_; clear S; intro b1 w1 S)
                | ((with_reducible refine wpl_isDst 5 ?_); refine S.ld 4 _ rfl b1 2 rfl 0 _ rfl (.bool _) HS.out _ Tryd.underlying4 rfl rfl ?_)
                | ((with_reducible refine wpl_isDst 9 ?_); first | (refine wpl_skip rfl ?_) | refine S.ld 3 _ rfl b1 0 rfl 0 _ rfl _ rfl _ Tryd.underlying3 rfl rfl ?_)
                | (go_at_call 38; refine (C1.out _).mono ?_; rintro e wf ⟨rfl, rfl⟩)
                | ((with_reducible refine wpl_isDst 15 ?_); refine S.ld 3 _ rfl b1 0 rfl 0 _ rfl _ rfl _ Tryd.underlying3 rfl rfl ?_)
                | (go_at_call 39; refine (C2.out _).mono ?_; rintro e wf ⟨rfl, rfl⟩)
                | ((with_reducible refine wpl_isDst 19 ?_); refine S.ld 3 _ rfl b1 0 rfl 0 _ rfl _ rfl _ Tryd.underlying3 rfl rfl ?_)
                | ((with_reducible refine wpl_isDst 23 ?_); refine S.ld 3 _ rfl b1 0 rfl 0 _ rfl _ rfl _ Tryd.underlying3 rfl rfl ?_)
                | (go_at_call 37; refine (C3.out _).mono ?_; rintro e wf ⟨rfl, rfl⟩)
                | ((with_reducible refine wpl_isDst 27 ?_); refine S.ld 3 _ rfl b1 0 rfl 0 _ rfl _ rfl _ Tryd.underlying3 rfl rfl ?_)
                | (go_at_call 8; refine (CC.out _).mono ?_; rintro e wf ⟨rfl, rfl⟩)
                | ((with_reducible refine wpl_isDst 31 ?_); refine S.ldAll 31 _ rfl b1 rfl 0 _ rfl _ Tryd.underlying31 rfl (szIV _) rfl ?_)
                | (go_at_call 40; refine (C4.out _).mono ?_; rintro e wf ⟨rfl, hbf⟩; replace S := S.below hbf; clear hbf)
                )
              (try simp only [Exit.inBlock, Exit.then])
              go_ret
              exact ⟨by simp [*], S.low⟩
            · cases q5
              · go_enter Tryd.func18, Tryd.ntmps18
                have S := SH.start w
                go_wp2_with (first
                  | ((with_reducible refine wpl_isDst 1 ?_); refine SH.box (L := []) S rfl 31 _ rfl (Cel.iv i) rfl ?_; clear S; intro b1 w1 S)
                  | ((with_reducible refine wpl_isDst 5 ?_); refine S.ld 4 _ rfl b1 2 rfl 0 _ rfl (.bool _) HS.out _ Tryd.underlying4 rfl rfl ?_)
                  | ((with_reducible refine wpl_isDst 9 ?_); first | (refine wpl_skip rfl ?_) | refine S.ld 3 _ rfl b1 0 rfl 0 _ rfl _ rfl _ Tryd.underlying3 rfl rfl ?_)
                  | (go_at_call 38; refine (C1.out _).mono ?_; rintro e wf ⟨rfl, rfl⟩)
                  | ((with_reducible refine wpl_isDst 15 ?_); refine S.ld 3 _ rfl b1 0 rfl 0 _ rfl _ rfl _ Tryd.underlying3 rfl rfl ?_)
                  | (go_at_call 39; refine (C2.out _).mono ?_; rintro e wf ⟨rfl, rfl⟩)
                  | ((with_reducible refine wpl_isDst 19 ?_); refine S.ld 3 _ rfl b1 0 rfl 0 _ rfl _ rfl _ Tryd.underlying3 rfl rfl ?_)
                  | ((with_reducible refine wpl_isDst 23 ?_); refine S.ld 3 _ rfl b1 0 rfl 0 _ rfl _ rfl _ Tryd.underlying3 rfl rfl ?_)
                  | (go_at_call 37; refine (C3.out _).mono ?_; rintro e wf ⟨rfl, rfl⟩)
                  | ((with_reducible refine wpl_isDst 27 ?_); refine S.ld 3 _ rfl b1 0 rfl 0 _ rfl _ rfl _ Tryd.underlying3 rfl rfl ?_)
                  | (go_at_call 8; refine (CC.out _).mono ?_; rintro e wf ⟨rfl, rfl⟩)
                  | ((with_reducible refine wpl_isDst 31 ?_); refine S.ldAll 31 _ rfl b1 rfl 0 _ rfl _ Tryd.underlying31 rfl (szIV _) rfl ?_)
                  | (go_at_call 40; refine (C4.out _).mono ?_; rintro e wf ⟨rfl, hbf⟩; replace S := S.below hbf; clear hbf)
                  )
                (try simp only [Exit.inBlock, Exit.then])
                go_ret
                exact ⟨by simp [*], S.low⟩
              · go_enter Tryd.func18, Tryd.ntmps18
                have S := SH.start w
                go_wp2_with (first
                  | ((with_reducible refine wpl_isDst 1 ?_); refine SH.box (L := []) S rfl 31 _ rfl (Cel.iv i) rfl ?_; clear S; intro b1 w1 S)
                  | ((with_reducible refine wpl_isDst 5 ?_); refine S.ld 4 _ rfl b1 2 rfl 0 _ rfl (.bool _) HS.out _ Tryd.underlying4 rfl rfl ?_)
                  | ((with_reducible refine wpl_isDst 9 ?_); first | (refine wpl_skip rfl ?_) | refine S.ld 3 _ rfl b1 0 rfl 0 _ rfl _ rfl _ Tryd.underlying3 rfl rfl ?_)
                  | (go_at_call 38; refine (C1.out _).mono ?_; rintro e wf ⟨rfl, rfl⟩)
                  | ((with_reducible refine wpl_isDst 15 ?_); refine S.ld 3 _ rfl b1 0 rfl 0 _ rfl _ rfl _ Tryd.underlying3 rfl rfl ?_)
                  | (go_at_call 39; refine (C2.out _).mono ?_; rintro e wf ⟨rfl, rfl⟩)
                  | ((with_reducible refine wpl_isDst 19 ?_); refine S.ld 3 _ rfl b1 0 rfl 0 _ rfl _ rfl _ Tryd.underlying3 rfl rfl ?_)
                  | ((with_reducible refine wpl_isDst 23 ?_); refine S.ld 3 _ rfl b1 0 rfl 0 _ rfl _ rfl _ Tryd.underlying3 rfl rfl ?_)
                  | (go_at_call 37; refine (C3.out _).mono ?_; rintro e wf ⟨rfl, rfl⟩)
                  | ((with_reducible refine wpl_isDst 27 ?_); refine S.ld 3 _ rfl b1 0 rfl 0 _ rfl _ rfl _ Tryd.underlying3 rfl rfl ?_)
                  | (go_at_call 8; refine (CC.out _).mono ?_; rintro e wf ⟨rfl, rfl⟩)
                  | ((with_reducible refine wpl_isDst 31 ?_); refine S.ldAll 31 _ rfl b1 rfl 0 _ rfl _ Tryd.underlying31 rfl (szIV _) rfl ?_)
                  | (go_at_call 40; refine (C4.out _).mono ?_; rintro e wf ⟨rfl, hbf⟩; replace S := S.below hbf; clear hbf)
                  )
                (try simp only [Exit.inBlock, Exit.then])
                go_ret
                exact ⟨by simp [*], S.low⟩
          · go_enter Tryd.func18, Tryd.ntmps18
            have S := SH.start w
            go_wp2_with (first
              | ((with_reducible refine wpl_isDst 1 ?_); refine SH.box (L := []) S rfl 31 _ rfl (Cel.iv i) rfl ?_; clear S; intro b1 w1 S)
              | ((with_reducible refine wpl_isDst 5 ?_); refine S.ld 4 _ rfl b1 2 rfl 0 _ rfl (.bool _) HS.out _ Tryd.underlying4 rfl rfl ?_)
              | ((with_reducible refine wpl_isDst 9 ?_); first | (refine wpl_skip rfl ?_) | refine S.ld 3 _ rfl b1 0 rfl 0 _ rfl _ rfl _ Tryd.underlying3 rfl rfl ?_)
              | (go_at_call 38; refine (C1.out _).mono ?_; rintro e wf ⟨rfl, rfl⟩)
              | ((with_reducible refine wpl_isDst 15 ?_); refine S.ld 3 _ rfl b1 0 rfl 0 _ rfl _ rfl _ Tryd.underlying3 rfl rfl ?_)
              | (go_at_call 39; refine (C2.out _).mono ?_; rintro e wf ⟨rfl, rfl⟩)
              | ((with_reducible refine wpl_isDst 19 ?_); refine S.ld 3 _ rfl b1 0 rfl 0 _ rfl _ rfl _ Tryd.underlying3 rfl rfl ?_)
              | ((with_reducible refine wpl_isDst 23 ?_); refine S.ld 3 _ rfl b1 0 rfl 0 _ rfl _ rfl _ Tryd.underlying3 rfl rfl ?_)
              | (go_at_call 37; refine (C3.out _).mono ?_; rintro e wf ⟨rfl, rfl⟩)
              | ((with_reducible refine wpl_isDst 27 ?_); refine S.ld 3 _ rfl b1 0 rfl 0 _ rfl _ rfl _ Tryd.underlying3 rfl rfl ?_)
              | (go_at_call 8; refine (CC.out _).mono ?_; rintro e wf ⟨rfl, rfl⟩)
              | ((with_reducible refine wpl_isDst 31 ?_); refine S.ldAll 31 _ rfl b1 rfl 0 _ rfl _ Tryd.underlying31 rfl (szIV _) rfl ?_)
              | (go_at_call 40; refine (C4.out _).mono ?_; rintro e wf ⟨rfl, hbf⟩; replace S := S.below hbf; clear hbf)
              )
            (try simp only [Exit.inBlock, Exit.then])
            go_ret
            exact ⟨by simp [*], S.low⟩
        · go_enter Tryd.func18, Tryd.ntmps18
          have S := SH.start w
          go_wp2_with (first
            | ((with_reducible refine wpl_isDst 1 ?_); refine SH.box (L := []) S rfl 31 _ rfl (Cel.iv i) rfl ?_; clear S; intro b1 w1 S)
            | ((with_reducible refine wpl_isDst 5 ?_); refine S.ld 4 _ rfl b1 2 rfl 0 _ rfl (.bool _) HS.out _ Tryd.underlying4 rfl rfl ?_)
            | ((with_reducible refine wpl_isDst 9 ?_); first | (refine wpl_skip rfl ?_) | refine S.ld 3 _ rfl b1 0 rfl 0 _ rfl _ rfl _ Tryd.underlying3 rfl rfl ?_)
            | (go_at_call 38; refine (C1.out _).mono ?_; rintro e wf ⟨rfl, rfl⟩)
            | ((with_reducible refine wpl_isDst 15 ?_); refine S.ld 3 _ rfl b1 0 rfl 0 _ rfl _ rfl _ Tryd.underlying3 rfl rfl ?_)
            | (go_at_call 39; refine (C2.out _).mono ?_; rintro e wf ⟨rfl, rfl⟩)
            | ((with_reducible refine wpl_isDst 19 ?_); refine S.ld 3 _ rfl b1 0 rfl 0 _ rfl _ rfl _ Tryd.underlying3 rfl rfl ?_)
            | ((with_reducible refine wpl_isDst 23 ?_); refine S.ld 3 _ rfl b1 0 rfl 0 _ rfl _ rfl _ Tryd.underlying3 rfl rfl ?_)
            | (go_at_call 37; refine (C3.out _).mono ?_; rintro e wf ⟨rfl, rfl⟩)
            | ((with_reducible refine wpl_isDst 27 ?_); refine S.ld 3 _ rfl b1 0 rfl 0 _ rfl _ rfl _ Tryd.underlying3 rfl rfl ?_)
            | (go_at_call 8; refine (CC.out _).mono ?_; rintro e wf ⟨rfl, rfl⟩)
            | ((with_reducible refine wpl_isDst 31 ?_); refine S.ldAll 31 _ rfl b1 rfl 0 _ rfl _ Tryd.underlying31 rfl (szIV _) rfl ?_)
            | (go_at_call 40; refine (C4.out _).mono ?_; rintro e wf ⟨rfl, hbf⟩; replace S := S.below hbf; clear hbf)
            )
          (try simp only [Exit.inBlock, Exit.then])
          go_ret
          exact ⟨by simp [*], S.low⟩
      · go_enter Tryd.func18, Tryd.ntmps18
        have S := SH.start w
        go_wp2_with (first
          | ((with_reducible refine wpl_isDst 1 ?_); refine SH.box (L := []) S rfl 31 _ rfl (Cel.iv i) rfl ?_; clear S; intro b1 w1 S)
          | ((with_reducible refine wpl_isDst 5 ?_); refine S.ld 4 _ rfl b1 2 rfl 0 _ rfl (.bool _) HS.out _ Tryd.underlying4 rfl rfl ?_)
          | ((with_reducible refine wpl_isDst 9 ?_); first | (refine wpl_skip rfl ?_) | refine S.ld 3 _ rfl b1 0 rfl 0 _ rfl _ rfl _ Tryd.underlying3 rfl rfl ?_)
          | (go_at_call 38; refine (C1.out _).mono ?_; rintro e wf ⟨rfl, rfl⟩)
          | ((with_reducible refine wpl_isDst 15 ?_); refine S.ld 3 _ rfl b1 0 rfl 0 _ rfl _ rfl _ Tryd.underlying3 rfl rfl ?_)
          | (go_at_call 39; refine (C2.out _).mono ?_; rintro e wf ⟨rfl, rfl⟩)
          | ((with_reducible refine wpl_isDst 19 ?_); refine S.ld 3 _ rfl b1 0 rfl 0 _ rfl _ rfl _ Tryd.underlying3 rfl rfl ?_)
          | ((with_reducible refine wpl_isDst 23 ?_); refine S.ld 3 _ rfl b1 0 rfl 0 _ rfl _ rfl _ Tryd.underlying3 rfl rfl ?_)
          | (go_at_call 37; refine (C3.out _).mono ?_; rintro e wf ⟨rfl, rfl⟩)
          | ((with_reducible refine wpl_isDst 27 ?_); refine S.ld 3 _ rfl b1 0 rfl 0 _ rfl _ rfl _ Tryd.underlying3 rfl rfl ?_)
          | (go_at_call 8; refine (CC.out _).mono ?_; rintro e wf ⟨rfl, rfl⟩)
          | ((with_reducible refine wpl_isDst 31 ?_); refine S.ldAll 31 _ rfl b1 rfl 0 _ rfl _ Tryd.underlying31 rfl (szIV _) rfl ?_)
          | (go_at_call 40; refine (C4.out _).mono ?_; rintro e wf ⟨rfl, hbf⟩; replace S := S.below hbf; clear hbf)
          )
        (try simp only [Exit.inBlock, Exit.then])
        go_ret
        exact ⟨by simp [*], S.low⟩
  · cases q2
    · cases e3 : (i.op == 21)
      · cases q3
        · cases e4 : (q4 == 1)
          · go_enter Tryd.func18, Tryd.ntmps18
            have S := SH.start w
            go_wp2_with (first
              | ((with_reducible refine wpl_isDst 1 ?_); refine SH.box (L := []) S rfl 31 _ rfl (Cel.iv i) rfl ?_; clear S; intro b1 w1 S)
              | ((with_reducible refine wpl_isDst 5 ?_); refine S.ld 4 _ rfl b1 2 rfl 0 _ rfl (.bool _) HS.out _ Tryd.underlying4 rfl rfl ?_)
              | ((with_reducible refine wpl_isDst 9 ?_); first | (refine wpl_skip rfl ?_) | refine S.ld 3 _ rfl b1 0 rfl 0 _ rfl _ rfl _ Tryd.underlying3 rfl rfl ?_)
              | (go_at_call 38; refine (C1.out _).mono ?_; rintro e wf ⟨rfl, rfl⟩)
              | ((with_reducible refine wpl_isDst 15 ?_); refine S.ld 3 _ rfl b1 0 rfl 0 _ rfl _ rfl _ Tryd.underlying3 rfl rfl ?_)
              | (go_at_call 39; refine (C2.out _).mono ?_; rintro e wf ⟨rfl, rfl⟩)
              | ((with_reducible refine wpl_isDst 19 ?_); refine S.ld 3 _ rfl b1 0 rfl 0 _ rfl _ rfl _ Tryd.underlying3 rfl rfl ?_)
              | ((with_reducible refine wpl_isDst 23 ?_); refine S.ld 3 _ rfl b1 0 rfl 0 _ rfl _ rfl _ Tryd.underlying3 rfl rfl ?_)
              | (go_at_call 37; refine (C3.out _).mono ?_; rintro e wf ⟨rfl, rfl⟩)
              | ((with_reducible refine wpl_isDst 27 ?_); refine S.ld 3 _ rfl b1 0 rfl 0 _ rfl _ rfl _ Tryd.underlying3 rfl rfl ?_)
              | (go_at_call 8; refine (CC.out _).mono ?_; rintro e wf ⟨rfl, rfl⟩)
              | ((with_reducible refine wpl_isDst 31 ?_); refine S.ldAll 31 _ rfl b1 rfl 0 _ rfl _ Tryd.underlying31 rfl (szIV _) rfl ?_)
              | (go_at_call 40; refine (C4.out _).mono ?_; rintro e wf ⟨rfl, hbf⟩; replace S := S.below hbf; clear hbf)
              )
            (try simp only [Exit.inBlock, Exit.then])
            go_ret
            exact ⟨by simp [*], S.low⟩
          · cases q5
            · go_enter Tryd.func18, Tryd.ntmps18
              have S := SH.start w
              go_wp2_with (first
                | ((with_reducible refine wpl_isDst 1 ?_); refine SH.box (L := []) S rfl 31 _ rfl (Cel.iv i) rfl ?_; clear S; intro b1 w1 S)
                | ((with_reducible refine wpl_isDst 5 ?_); refine S.ld 4 _ rfl b1 2 rfl 0 _ rfl (.bool _) HS.out _ Tryd.underlying4 rfl rfl ?_)
                | ((with_reducible refine wpl_isDst 9 ?_); first | (refine wpl_skip rfl ?_) | refine S.ld 3 _ rfl b1 0 rfl 0 _ rfl _ rfl _ Tryd.underlying3 rfl rfl ?_)
                | (go_at_call 38; refine (C1.out _).mono ?_; rintro e wf ⟨rfl, rfl⟩)
                | ((with_reducible refine wpl_isDst 15 ?_); refine S.ld 3 _ rfl b1 0 rfl 0 _ rfl _ rfl _ Tryd.underlying3 rfl rfl ?_)
                | (go_at_call 39; refine (C2.out _).mono ?_; rintro e wf ⟨rfl, rfl⟩)
                | ((with_reducible refine wpl_isDst 19 ?_); refine S.ld 3 _ rfl b1 0 rfl 0 _ rfl _ rfl _ Tryd.underlying3 rfl rfl ?_)
                | ((with_reducible refine wpl_isDst 23 ?_); refine S.ld 3 _ rfl b1 0 rfl 0 _ rfl _ rfl _ Tryd.underlying3 rfl rfl ?_)
                | (go_at_call 37; refine (C3.out _).mono ?_; rintro e wf ⟨rfl, rfl⟩)
                | ((with_reducible refine wpl_isDst 27 ?_); refine S.ld 3 _ rfl b1 0 rfl 0 _ rfl _ rfl _ Tryd.underlying3 rfl rfl ?_)
                | (go_at_call 8; refine (CC.out _).mono ?_; rintro e wf ⟨rfl, rfl⟩)
                | ((with_reducible refine wpl_isDst 31 ?_); refine S.ldAll 31 _ rfl b1 rfl 0 _ rfl _ Tryd.underlying31 rfl (szIV _) rfl ?_)
                | (go_at_call 40; refine (C4.out _).mono ?_; rintro e wf ⟨rfl, hbf⟩; replace S := S.below hbf; clear hbf)
                )
              (try simp only [Exit.inBlock, Exit.then])
              go_ret
              exact ⟨by simp [*], S.low⟩
            · go_enter Tryd.func18, Tryd.ntmps18
              have S := SH.start w
              go_wp2_with (first
                | ((with_reducible refine wpl_isDst 1 ?_); refine SH.box (L := []) S rfl 31 _ rfl (Cel.iv i) rfl ?_; clear S; intro b1 w1 S)
                | ((with_reducible refine wpl_isDst 5 ?_); refine S.ld 4 _ rfl b1 2 rfl 0 _ rfl (.bool _) HS.out _ Tryd.underlying4 rfl rfl ?_)
                | ((with_reducible refine wpl_isDst 9 ?_); first | (refine wpl_skip rfl ?_) | refine S.ld 3 _ rfl b1 0 rfl 0 _ rfl _ rfl _ Tryd.underlying3 rfl rfl ?_)
                | (go_at_call 38; refine (C1.out _).mono ?_; rintro e wf ⟨rfl, rfl⟩)
                | ((with_reducible refine wpl_isDst 15 ?_); refine S.ld 3 _ rfl b1 0 rfl 0 _ rfl _ rfl _ Tryd.underlying3 rfl rfl ?_)
                | (go_at_call 39; refine (C2.out _).mono ?_; rintro e wf ⟨rfl, rfl⟩)
                | ((with_reducible refine wpl_isDst 19 ?_); refine S.ld 3 _ rfl b1 0 rfl 0 _ rfl _ rfl _ Tryd.underlying3 rfl rfl ?_)
                | ((with_reducible refine wpl_isDst 23 ?_); refine S.ld 3 _ rfl b1 0 rfl 0 _ rfl _ rfl _ Tryd.underlying3 rfl rfl ?_)
                | (go_at_call 37; refine (C3.out _).mono ?_; rintro e wf ⟨rfl, rfl⟩)
                | ((with_reducible refine wpl_isDst 27 ?_); refine S.ld 3 _ rfl b1 0 rfl 0 _ rfl _ rfl _ Tryd.underlying3 rfl rfl ?_)
                | (go_at_call 8; refine (CC.out _).mono ?_; rintro e wf ⟨rfl, rfl⟩)
                | ((with_reducible refine wpl_isDst 31 ?_); refine S.ldAll 31 _ rfl b1 rfl 0 _ rfl _ Tryd.underlying31 rfl (szIV _) rfl ?_)
                | (go_at_call 40; refine (C4.out _).mono ?_; rintro e wf ⟨rfl, hbf⟩; replace S := S.below hbf; clear hbf)
                )
              (try simp only [Exit.inBlock, Exit.then])
              go_ret
              exact ⟨by simp [*], S.low⟩
        · go_enter Tryd.func18, Tryd.ntmps18
          have S := SH.start w
          go_wp2_with (first
            | ((with_reducible refine wpl_isDst 1 ?_); refine SH.box (L := []) S rfl 31 _ rfl (Cel.iv i) rfl ?_; clear S; intro b1 w1 S)
            | ((with_reducible refine wpl_isDst 5 ?_); refine S.ld 4 _ rfl b1 2 rfl 0 _ rfl (.bool _) HS.out _ Tryd.underlying4 rfl rfl ?_)
            | ((with_reducible refine wpl_isDst 9 ?_); first | (refine wpl_skip rfl ?_) | refine S.ld 3 _ rfl b1 0 rfl 0 _ rfl _ rfl _ Tryd.underlying3 rfl rfl ?_)
            | (go_at_call 38; refine (C1.out _).mono ?_; rintro e wf ⟨rfl, rfl⟩)
            | ((with_reducible refine wpl_isDst 15 ?_); refine S.ld 3 _ rfl b1 0 rfl 0 _ rfl _ rfl _ Tryd.underlying3 rfl rfl ?_)
            | (go_at_call 39; refine (C2.out _).mono ?_; rintro e wf ⟨rfl, rfl⟩)
            | ((with_reducible refine wpl_isDst 19 ?_); refine S.ld 3 _ rfl b1 0 rfl 0 _ rfl _ rfl _ Tryd.underlying3 rfl rfl ?_)
            | ((with_reducible refine wpl_isDst 23 ?_); refine S.ld 3 _ rfl b1 0 rfl 0 _ rfl _ rfl _ Tryd.underlying3 rfl rfl ?_)
            | (go_at_call 37; refine (C3.out _).mono ?_; rintro e wf ⟨rfl, rfl⟩)
            | ((with_reducible refine wpl_isDst 27 ?_); refine S.ld 3 _ rfl b1 0 rfl 0 _ rfl _ rfl _ Tryd.underlying3 rfl rfl ?_)
            | (go_at_call 8; refine (CC.out _).mono ?_; rintro e wf ⟨rfl, rfl⟩)
            | ((with_reducible refine wpl_isDst 31 ?_); refine S.ldAll 31 _ rfl b1 rfl 0 _ rfl _ Tryd.underlying31 rfl (szIV _) rfl ?_)
            | (go_at_call 40; refine (C4.out _).mono ?_; rintro e wf ⟨rfl, hbf⟩; replace S := S.below hbf; clear hbf)
            )
          (try simp only [Exit.inBlock, Exit.then])
          go_ret
          exact ⟨by simp [*], S.low⟩
      · go_enter Tryd.func18, Tryd.ntmps18
        have S := SH.start w
        go_wp2_with (first
          | ((with_reducible refine wpl_isDst 1 ?_); refine SH.box (L := []) S rfl 31 _ rfl (Cel.iv i) rfl ?_; clear S; intro b1 w1 S)
          | ((with_reducible refine wpl_isDst 5 ?_); refine S.ld 4 _ rfl b1 2 rfl 0 _ rfl (.bool _) HS.out _ Tryd.underlying4 rfl rfl ?_)
          | ((with_reducible refine wpl_isDst 9 ?_); first | (refine wpl_skip rfl ?_) | refine S.ld 3 _ rfl b1 0 rfl 0 _ rfl _ rfl _ Tryd.underlying3 rfl rfl ?_)
          | (go_at_call 38; refine (C1.out _).mono ?_; rintro e wf ⟨rfl, rfl⟩)
          | ((with_reducible refine wpl_isDst 15 ?_); refine S.ld 3 _ rfl b1 0 rfl 0 _ rfl _ rfl _ Tryd.underlying3 rfl rfl ?_)
          | (go_at_call 39; refine (C2.out _).mono ?_; rintro e wf ⟨rfl, rfl⟩)
          | ((with_reducible refine wpl_isDst 19 ?_); refine S.ld 3 _ rfl b1 0 rfl 0 _ rfl _ rfl _ Tryd.underlying3 rfl rfl ?_)
          | ((with_reducible refine wpl_isDst 23 ?_); refine S.ld 3 _ rfl b1 0 rfl 0 _ rfl _ rfl _ Tryd.underlying3 rfl rfl ?_)
          | (go_at_call 37; refine (C3.out _).mono ?_; rintro e wf ⟨rfl, rfl⟩)
          | ((with_reducible refine wpl_isDst 27 ?_); refine S.ld 3 _ rfl b1 0 rfl 0 _ rfl _ rfl _ Tryd.underlying3 rfl rfl ?_)
          | (go_at_call 8; refine (CC.out _).mono ?_; rintro e wf ⟨rfl, rfl⟩)
          | ((with_reducible refine wpl_isDst 31 ?_); refine S.ldAll 31 _ rfl b1 rfl 0 _ rfl _ Tryd.underlying31 rfl (szIV _) rfl ?_)
          | (go_at_call 40; refine (C4.out _).mono ?_; rintro e wf ⟨rfl, hbf⟩; replace S := S.below hbf; clear hbf)
          )
        (try simp only [Exit.inBlock, Exit.then])
        go_ret
        exact ⟨by simp [*], S.low⟩
    · go_enter Tryd.func18, Tryd.ntmps18
      have S := SH.start w
      go_wp2_with (first
        | ((with_reducible refine wpl_isDst 1 ?_); refine SH.box (L := []) S rfl 31 _ rfl (Cel.iv i) rfl ?_; clear S; intro b1 w1 S)
        | ((with_reducible refine wpl_isDst 5 ?_); refine S.ld 4 _ rfl b1 2 rfl 0 _ rfl (.bool _) HS.out _ Tryd.underlying4 rfl rfl ?_)
        | ((with_reducible refine wpl_isDst 9 ?_); first | (refine wpl_skip rfl ?_) | refine S.ld 3 _ rfl b1 0 rfl 0 _ rfl _ rfl _ Tryd.underlying3 rfl rfl ?_)
        | (go_at_call 38; refine (C1.out _).mono ?_; rintro e wf ⟨rfl, rfl⟩)
        | ((with_reducible refine wpl_isDst 15 ?_); refine S.ld 3 _ rfl b1 0 rfl 0 _ rfl _ rfl _ Tryd.underlying3 rfl rfl ?_)
        | (go_at_call 39; refine (C2.out _).mono ?_; rintro e wf ⟨rfl, rfl⟩)
        | ((with_reducible refine wpl_isDst 19 ?_); refine S.ld 3 _ rfl b1 0 rfl 0 _ rfl _ rfl _ Tryd.underlying3 rfl rfl ?_)
        | ((with_reducible refine wpl_isDst 23 ?_); refine S.ld 3 _ rfl b1 0 rfl 0 _ rfl _ rfl _ Tryd.underlying3 rfl rfl ?_)
        | (go_at_call 37; refine (C3.out _).mono ?_; rintro e wf ⟨rfl, rfl⟩)
        | ((with_reducible refine wpl_isDst 27 ?_); refine S.ld 3 _ rfl b1 0 rfl 0 _ rfl _ rfl _ Tryd.underlying3 rfl rfl ?_)
        | (go_at_call 8; refine (CC.out _).mono ?_; rintro e wf ⟨rfl, rfl⟩)
        | ((with_reducible refine wpl_isDst 31 ?_); refine S.ldAll 31 _ rfl b1 rfl 0 _ rfl _ Tryd.underlying31 rfl (szIV _) rfl ?_)
        | (go_at_call 40; refine (C4.out _).mono ?_; rintro e wf ⟨rfl, hbf⟩; replace S := S.below hbf; clear hbf)
        )
      (try simp only [Exit.inBlock, Exit.then])
      go_ret
      exact ⟨by simp [*], S.low⟩
set_option maxHeartbeats 8000000 in
set_option maxRecDepth 100000 in
theorem reads_c (i : IV) (l : Nat) (hl : i.list = (l : Int)) (hl2 : l < 65536) (w : World) : Calls Tryd.prog 13 #[i.val] w fun e w' => ∃ u, e = .returned u ∧ IL w' u (readsI i l) ∧ Below w.heap.size w w' := by
  have CT : Hid (∀ w1, Calls Tryd.prog 33 #[i.val] w1 fun e w' => e = .returned (.int .i64 (takesN i : Int)) ∧ Below w1.heap.size w1 w') := fun w1 => by
    have h := takes_c i w1
    rw [(takes_n i).1] at h
    exact h
  have CG : Hid (∀ w1, Calls Tryd.prog 34 #[i.val] w1 fun e w' => e = .returned (.int .i64 (givesN i : Int)) ∧ Below w1.heap.size w1 w') := fun w1 => by
    have h := gives_c i w1
    rw [(gives_n i).1] at h
    exact h
  have CR : Hid (∀ w1, Calls Tryd.prog 36 #[i.val, .int .i64 (readsW i : Int)] w1 fun e w' => RowPost w1 (regsL i.d i.n i.m i.a l (readsW i)) e w') := fun w1 => registers_c i (readsW i) l (readsW_lt i) hl hl2 w1
  have HOR : Hid (bits .or .i64 (takesN i : Int) (givesN i : Int) = ((takesN i ||| givesN i : Nat) : Int)) := (bits64 _ _ (by have := (takes_n i).2; omega) (by have := (gives_n i).2; omega)).2
  have HRW : Hid (readsW i = bif i.cond == 14 then takesN i else takesN i ||| givesN i) := rfl
  unfold readsI
  clear hl hl2
  cases e1 : (i.cond == 14)
  · have hR : readsW i = takesN i ||| givesN i := by
      have := HRW.out
      rw [e1] at this
      exact this
    rw [← hR] at HOR
    have e2 : (i.cond != 14) = true := by simp only [bne, e1, Bool.not_false]
    clear HRW hR
    generalize readsW i = R at *
    generalize takesN i = T at *
    generalize givesN i = G at *
    go_enter Tryd.func13, Tryd.ntmps13
    have S := SH.start w
    go_wp2_with (first
      | ((with_reducible refine wpl_isDst 1 ?_); refine SH.box (L := []) S rfl 31 _ rfl (Cel.iv i) rfl ?_; clear S; intro b1 w1 S)
      | ((with_reducible refine wpl_isDst 4 ?_); refine S.ldAll 31 _ rfl b1 rfl 0 _ rfl _ Tryd.underlying31 rfl (szIV _) rfl ?_)
      | (go_at_call 33; refine (CT.out _).mono ?_; rintro e wf ⟨rfl, hbf⟩; replace S := S.below hbf; clear hbf)
      | ((with_reducible refine wpl_isDst 7 ?_); refine S.ld 3 _ rfl b1 3 rfl 0 _ rfl _ rfl _ Tryd.underlying3 rfl rfl ?_)
      | ((with_reducible refine wpl_isDst 10 ?_); refine S.ldAll 31 _ rfl b1 rfl 0 _ rfl _ Tryd.underlying31 rfl (szIV _) rfl ?_)
      | (go_at_call 34; refine (CG.out _).mono ?_; rintro e wf ⟨rfl, hbf⟩; replace S := S.below hbf; clear hbf)
      | ((with_reducible refine wpl_isDst 12 ?_); refine wpl_dst 12 rfl (.int .i64 (R : Int)) (by go_simp; exact HOR.out) rfl ?_)
      | ((with_reducible refine wpl_isDst 13 ?_); refine S.ldAll 31 _ rfl b1 rfl 0 _ rfl _ Tryd.underlying31 rfl (szIV _) rfl ?_)
      | (go_at_call 36; refine (CR.out _).mono ?_; rintro e wf ⟨v15, rfl, hown, hbf⟩; have HO : Hid _ := hown; have HBF : Hid _ := hbf; clear hown hbf)
      | (go_at_call 35; refine (rising_c 14 _ _ v15 _ HO.out (regsL_len _ _ _ _ _ _)).mono ?_; rintro e wg ⟨u, rfl, hil, hgr⟩; replace S := S.below (below_rise HBF.out HO.out hgr); have HIL : Hid _ := hil; clear hil hgr HO HBF)
      )
    go_ret
    exact ⟨_, rfl, HIL.out, S.low⟩
  · have hR : readsW i = takesN i := by
      have := HRW.out
      rw [e1] at this
      exact this
    have e2 : (i.cond != 14) = false := by simp only [bne, e1, Bool.not_true]
    rw [← hR] at CT HOR
    clear HRW hR
    generalize readsW i = R at *
    go_enter Tryd.func13, Tryd.ntmps13
    have S := SH.start w
    go_wp2_with (first
      | ((with_reducible refine wpl_isDst 1 ?_); refine SH.box (L := []) S rfl 31 _ rfl (Cel.iv i) rfl ?_; clear S; intro b1 w1 S)
      | ((with_reducible refine wpl_isDst 4 ?_); refine S.ldAll 31 _ rfl b1 rfl 0 _ rfl _ Tryd.underlying31 rfl (szIV _) rfl ?_)
      | (go_at_call 33; refine (CT.out _).mono ?_; rintro e wf ⟨rfl, hbf⟩; replace S := S.below hbf; clear hbf)
      | ((with_reducible refine wpl_isDst 7 ?_); refine S.ld 3 _ rfl b1 3 rfl 0 _ rfl _ rfl _ Tryd.underlying3 rfl rfl ?_)
      | ((with_reducible refine wpl_isDst 10 ?_); refine S.ldAll 31 _ rfl b1 rfl 0 _ rfl _ Tryd.underlying31 rfl (szIV _) rfl ?_)
      | (go_at_call 34; refine (CG.out _).mono ?_; rintro e wf ⟨rfl, hbf⟩; replace S := S.below hbf; clear hbf)
      | ((with_reducible refine wpl_isDst 12 ?_); refine wpl_dst 12 rfl (.int .i64 (R : Int)) (by go_simp; exact HOR.out) rfl ?_)
      | ((with_reducible refine wpl_isDst 13 ?_); refine S.ldAll 31 _ rfl b1 rfl 0 _ rfl _ Tryd.underlying31 rfl (szIV _) rfl ?_)
      | (go_at_call 36; refine (CR.out _).mono ?_; rintro e wf ⟨v15, rfl, hown, hbf⟩; have HO : Hid _ := hown; have HBF : Hid _ := hbf; clear hown hbf)
      | (go_at_call 35; refine (rising_c 14 _ _ v15 _ HO.out (regsL_len _ _ _ _ _ _)).mono ?_; rintro e wg ⟨u, rfl, hil, hgr⟩; replace S := S.below (below_rise HBF.out HO.out hgr); have HIL : Hid _ := hil; clear hil hgr HO HBF)
      )
    go_ret
    exact ⟨_, rfl, HIL.out, S.low⟩
set_option maxHeartbeats 8000000 in
set_option maxRecDepth 100000 in
theorem writes_c (i : IV) (l : Nat) (hl : i.list = (l : Int)) (hl2 : l < 65536) (w : World) : Calls Tryd.prog 14 #[i.val] w fun e w' => ∃ u, e = .returned u ∧ IL w' u (writesI i l) ∧ Below w.heap.size w w' := by
  have CG : Hid (∀ w1, Calls Tryd.prog 34 #[i.val] w1 fun e w' => e = .returned (.int .i64 (givesN i : Int)) ∧ Below w1.heap.size w1 w') := fun w1 => by
    have h := gives_c i w1
    rw [(gives_n i).1] at h
    exact h
  have CR : Hid (∀ w1, Calls Tryd.prog 36 #[i.val, .int .i64 (givesN i : Int)] w1 fun e w' => RowPost w1 (regsL i.d i.n i.m i.a l (givesN i)) e w') := fun w1 => registers_c i (givesN i) l (gives_n i).2 hl hl2 w1
  have CB : Hid (∀ w1, Calls Tryd.prog 20 #[i.val] w1 fun e w' => e = .returned (.bool (branchesI i l)) ∧ Below w1.heap.size w1 w') := fun w1 => branches_c i l hl hl2 w1
  unfold writesI
  clear hl hl2
  generalize branchesI i l = e1 at *
  generalize givesN i = G at *
  cases e1
  · go_enter Tryd.func14, Tryd.ntmps14
    have S := SH.start w
    go_upto_region 3 with (first
      | ((with_reducible refine wpl_isDst 1 ?_); refine SH.box (L := []) S rfl 31 _ rfl (Cel.iv i) rfl ?_; clear S; intro b1 w1 S)
      | ((with_reducible refine wpl_isDst 3 ?_); refine S.ldAll 31 _ rfl b1 rfl 0 _ rfl _ Tryd.underlying31 rfl (szIV _) rfl ?_)
      | (go_at_call 20; refine (CB.out _).mono ?_; rintro e wf ⟨rfl, hbf⟩; replace S := S.below hbf; clear hbf))
    refine Upto.start (S := fun w' => SH noZ w w' [(b1, Cel.iv i)]) 5 (by kernel_rfl) ?_
    replace S := S.drew
    refine Upto.take (i := 0) (oi := { dst := some 10, op := Op.load 31 (Operand.tmp 1), type := 31, pos := "inst.go:117", after := #[], guard := none }) (v := _) rfl (by kernel_rfl) (by kernel_rfl) (by kernel_rfl) (by kernel_rfl) (fun _ _ _ h => h) (y_loadAll (by rfl) _ _ rfl _ rfl 0 _ rfl _ Tryd.underlying31 rfl (szIV _)) (by exact S) ?_
    simp only [Act.put, List.setIfInBounds_toArray, List.set_cons_zero, List.set_cons_succ]
    refine Upto.take (i := 1) (oi := { dst := some 11, op := Op.load 31 (Operand.tmp 1), type := 31, pos := "inst.go:117", after := #[], guard := none }) (v := _) rfl (by kernel_rfl) (by kernel_rfl) (by kernel_rfl) (by kernel_rfl) (fun _ _ _ h => h) (y_loadAll (by rfl) _ _ rfl _ rfl 0 _ rfl _ Tryd.underlying31 rfl (szIV _)) (by exact S) ?_
    simp only [Act.put, List.setIfInBounds_toArray, List.set_cons_zero, List.set_cons_succ]
    refine Upto.ready (rs := [2]) (by kernel_rfl) (by simp) ?_
    refine Nexts.cons rfl (by decide) (fun K hK => ?_) Nexts.nil
    go_simp
    go_wp2_with (go_at_call 34; refine (CG.out _).mono ?_; rintro e wf ⟨rfl, hbf⟩; replace S := S.below hbf; clear hbf)
    refine hK.out _ _ (by exact S) ?_
    clear hK K
    refine Upto.ready (rs := [3]) (by kernel_rfl) (by simp) ?_
    refine Nexts.cons rfl (by decide) (fun K hK => ?_) Nexts.nil
    go_simp
    go_wp2_with (go_at_call 36; refine (CR.out _).mono ?_; rintro e wf ⟨v15, rfl, hown, hbf⟩; have HO : Hid _ := hown; have HBF : Hid _ := hbf; clear hown hbf)
    refine hK.out _ _ (by exact S.below HBF.out) ?_
    clear hK K
    refine Upto.ready (rs := [4]) (by kernel_rfl) (by simp) ?_
    refine Nexts.cons rfl (by decide) (fun K hK => ?_) Nexts.nil
    go_simp
    go_wp2_with (go_at_call 35; refine (rising_c 14 _ _ v15 _ HO.out (regsL_len _ _ _ _ _ _)).mono ?_; rintro e wg ⟨u, rfl, hil, hgr⟩; replace S := S.below (below_rise HBF.out HO.out hgr); have HIL : Hid _ := hil; clear hil hgr HO HBF)
    refine hK.out _ _ (by exact S) ?_
    clear hK K
    refine Upto.ready (rs := [5]) (by kernel_rfl) (by simp) ?_
    refine Nexts.last rfl (fun K hK => ?_)
    go_simp
    refine hK.out _ _ ?_
    clear hK K
    refine Upto.done (by kernel_rfl) ?_ _
    go_wp2
    go_ret
    exact ⟨_, rfl, HIL.out, S.low⟩
  · go_enter Tryd.func14, Tryd.ntmps14
    have S := SH.start w
    go_upto_region 2 with (first
      | ((with_reducible refine wpl_isDst 1 ?_); refine SH.box (L := []) S rfl 31 _ rfl (Cel.iv i) rfl ?_; clear S; intro b1 w1 S)
      | ((with_reducible refine wpl_isDst 3 ?_); refine S.ldAll 31 _ rfl b1 rfl 0 _ rfl _ Tryd.underlying31 rfl (szIV _) rfl ?_)
      | (go_at_call 20; refine (CB.out _).mono ?_; rintro e wf ⟨rfl, hbf⟩; replace S := S.below hbf; clear hbf))
    refine Upto.start (S := fun w' => SH noZ w w' [(b1, Cel.iv i)]) 5 (by kernel_rfl) ?_
    replace S := S.drew
    refine Upto.take (i := 0) (oi := { dst := some 5, op := Op.load 31 (Operand.tmp 1), type := 31, pos := "inst.go:115", after := #[], guard := none }) (v := _) rfl (by kernel_rfl) (by kernel_rfl) (by kernel_rfl) (by kernel_rfl) (fun _ _ _ h => h) (y_loadAll (by rfl) _ _ rfl _ rfl 0 _ rfl _ Tryd.underlying31 rfl (szIV _)) (by exact S) ?_
    simp only [Act.put, List.setIfInBounds_toArray, List.set_cons_zero, List.set_cons_succ]
    refine Upto.take (i := 1) (oi := { dst := some 6, op := Op.load 31 (Operand.tmp 1), type := 31, pos := "inst.go:115", after := #[], guard := none }) (v := _) rfl (by kernel_rfl) (by kernel_rfl) (by kernel_rfl) (by kernel_rfl) (fun _ _ _ h => h) (y_loadAll (by rfl) _ _ rfl _ rfl 0 _ rfl _ Tryd.underlying31 rfl (szIV _)) (by exact S) ?_
    simp only [Act.put, List.setIfInBounds_toArray, List.set_cons_zero, List.set_cons_succ]
    refine Upto.ready (rs := [2]) (by kernel_rfl) (by simp) ?_
    refine Nexts.cons rfl (by decide) (fun K hK => ?_) Nexts.nil
    go_simp
    go_wp2_with (go_at_call 34; refine (CG.out _).mono ?_; rintro e wf ⟨rfl, hbf⟩; replace S := S.below hbf; clear hbf)
    refine hK.out _ _ (by exact S) ?_
    clear hK K
    refine Upto.ready (rs := [3]) (by kernel_rfl) (by simp) ?_
    refine Nexts.cons rfl (by decide) (fun K hK => ?_) Nexts.nil
    go_simp
    go_wp2_with (go_at_call 36; refine (CR.out _).mono ?_; rintro e wf ⟨v15, rfl, hown, hbf⟩; have HO : Hid _ := hown; have HBF : Hid _ := hbf; clear hown hbf)
    refine hK.out _ _ (by exact S.below HBF.out) ?_
    clear hK K
    refine Upto.ready (rs := [4]) (by kernel_rfl) (by simp) ?_
    refine Nexts.cons rfl (by decide) (fun K hK => ?_) Nexts.nil
    go_simp
    go_wp2_with (go_at_call 35; refine (rising_c 15 _ _ v15 _ HO.out (regsL_len _ _ _ _ _ _)).mono ?_; rintro e wg ⟨u, rfl, hil, hgr⟩; replace S := S.below (below_rise HBF.out HO.out hgr); have HIL : Hid _ := hil; clear hil hgr HO HBF)
    refine hK.out _ _ (by exact S) ?_
    clear hK K
    refine Upto.ready (rs := [5]) (by kernel_rfl) (by simp) ?_
    refine Nexts.last rfl (fun K hK => ?_)
    go_simp
    refine hK.out _ _ ?_
    clear hK K
    refine Upto.done (by kernel_rfl) ?_ _
    go_wp2
    go_ret
    exact ⟨_, rfl, HIL.out, S.low⟩
end Go.Proofs.YtbbkiiabjhgpkaaDoor
