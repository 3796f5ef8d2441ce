/- HvmLoops, walked. -/
import Derived.Test.YteflboidbogegaaHvf
namespace Go.Proofs.Yteflboidbogegaa
open Go.ChangeShapes Go.WideShapes Go.ChangeAt Go.RowKit
set_option linter.unusedVariables false
set_option linter.unusedSimpArgs false

def LR (k : Int) : List Int := (zR.set 1 k).set 2 1
def lSub : HV := ⟨4, 1, 1, 2, 0, 0⟩
def lJz : HV := ⟨29, 0, 1, 0, 0, 2⟩
def lJmp : HV := ⟨28, 0, 0, 0, 0, 4294967294⟩
def lExit : HV := ⟨30, 0, 0, 0, 0, 0⟩
def lCode : List HV := [lSub, lJz, lJmp, lExit]
theorem LR_set (j x : Int) : (LR j).set 1 x = LR x := rfl
theorem LR_1 (j : Int) : regv (LR j) 1 = j := rfl
theorem LR_2 (j : Int) : regv (LR j) 2 = 1 := rfl
theorem LR_len (j : Int) : (LR j).length = 32 := by simp [LR, zR]
theorem LR_ok {k : Int} (k0 : 0 ≤ k) (k1 : k ≤ 100) : okR (LR k) := okR_set (okR_set zR_ok _ ⟨k0, by omega⟩) _ ⟨by decide, by decide⟩
theorem l_ok0 : okPc lCode 0 = true := by kernel_rfl
theorem l_ok1 : okPc lCode 1 = true := by kernel_rfl
theorem l_ok2 : okPc lCode 2 = true := by kernel_rfl
theorem l_ok3 : okPc lCode 3 = true := by kernel_rfl
theorem l_sub (j : Int) (E : List HEv) (j0 : 1 ≤ j) (j1 : j ≤ 100) : stepS 0 [] lSub ⟨LR j, E, 0, []⟩ = (⟨LR (j - 1), E ++ [⟨0, 0, 1⟩], 1, []⟩, 0, true) := by
  have h : (j - 1) % 4294967296 = j - 1 := by omega
  have h2 : stepS 0 [] lSub ⟨LR j, E, 0, []⟩ = (⟨(LR j).set 1 ((regv (LR j) 1 - regv (LR j) 2) % 4294967296), E ++ [⟨0, 0, 1⟩], 1, []⟩, 0, true) := by kernel_rfl
  rw [h2, LR_1, LR_2, h, LR_set]
theorem l_jz (j : Int) (E : List HEv) : stepS 0 [] lJz ⟨LR j, E, 1, []⟩ = (⟨LR j, E ++ [⟨1, 0, 2⟩], if j = 0 then 3 else 2, []⟩, 0, true) := by
  have h2 : stepS 0 [] lJz ⟨LR j, E, 1, []⟩ = (⟨LR j, E ++ [⟨1, 0, 2⟩], if regv (LR j) 1 = 0 then 3 else 2, []⟩, 0, true) := by kernel_rfl
  rw [h2, LR_1]
theorem l_jmp (j : Int) (E : List HEv) : stepS 0 [] lJmp ⟨LR j, E, 2, []⟩ = (⟨LR j, E ++ [⟨2, 0, 2⟩], 0, []⟩, 0, true) := by kernel_rfl
theorem l_exit (j : Int) (E : List HEv) : stepS 0 [] lExit ⟨LR j, E, 3, []⟩ = (⟨LR j, E ++ [⟨3, 0, 4⟩], 3, []⟩, 0, false) := by kernel_rfl
theorem run0 (j : Int) (E : List HEv) (p : Int) (h : okPc lCode p = true) : runS 0 [] lCode 0 ⟨LR j, E, p, []⟩ = (⟨LR j, E, p, []⟩, 35) := by simp only [runS, h, if_true]
theorem runSub (m : Nat) (j : Int) (E : List HEv) (j0 : 1 ≤ j) (j1 : j ≤ 100) : runS 0 [] lCode (m + 1) ⟨LR j, E, 0, []⟩ = runS 0 [] lCode m ⟨LR (j - 1), E ++ [⟨0, 0, 1⟩], 1, []⟩ := by
  simp only [runS, l_ok0, if_true]
  rw [show codeAt lCode 0 = lSub from rfl, l_sub j E j0 j1]
  rfl
theorem runJz (m : Nat) (j : Int) (E : List HEv) : runS 0 [] lCode (m + 1) ⟨LR j, E, 1, []⟩ = runS 0 [] lCode m ⟨LR j, E ++ [⟨1, 0, 2⟩], if j = 0 then 3 else 2, []⟩ := by
  simp only [runS, l_ok1, if_true]
  rw [show codeAt lCode 1 = lJz from rfl, l_jz j E]
  rfl
theorem runJmp (m : Nat) (j : Int) (E : List HEv) : runS 0 [] lCode (m + 1) ⟨LR j, E, 2, []⟩ = runS 0 [] lCode m ⟨LR j, E ++ [⟨2, 0, 2⟩], 0, []⟩ := by
  simp only [runS, l_ok2, if_true]
  rw [show codeAt lCode 2 = lJmp from rfl, l_jmp j E]
  rfl
theorem runExit (m : Nat) (j : Int) (E : List HEv) : runS 0 [] lCode (m + 1) ⟨LR j, E, 3, []⟩ = (⟨LR j, E ++ [⟨3, 0, 4⟩], 3, []⟩, 0) := by
  simp only [runS, l_ok3, if_true]
  rw [show codeAt lCode 3 = lExit from rfl, l_exit j E]
  rfl
/-- What the loop comes to. -/
def LoopIs (m k : Nat) (E : List HEv) (f : HSt × Int) : Prop :=
  okE f.1.E ∧ if m < 3 * k then f.2 = 35 ∧ f.1.E.length = E.length + m else f.2 = 0 ∧ f.1.E.length = E.length + 3 * k ∧ f.1.R[1]? = some 0 ∧ f.1.p = 3 ∧ sumCo f.1.E = sumCo E + (5 * k + 2 : Nat)
theorem okE_snoc {E : List HEv} (h : okE E) {e : HEv} (he : 0 ≤ e.co ∧ e.co ≤ 100) : okE (E ++ [e]) := by
  intro x hx
  rcases List.mem_append.1 hx with h1 | h1
  · exact h x h1
  · rw [List.mem_singleton.1 h1]; exact he
theorem loop_is : ∀ (k m : Nat) (E : List HEv), 1 ≤ k → k ≤ 20 → okE E → LoopIs m k E (runS 0 [] lCode m ⟨LR k, E, 0, []⟩)
  | 0, _, _, h, _, _ => absurd h (by decide)
  | k + 1, m, E, h0, h1, hE => by
    have hE1 : okE (E ++ [⟨0, 0, 1⟩]) := okE_snoc hE ⟨by decide, by decide⟩
    have hE2 : okE (E ++ [⟨0, 0, 1⟩] ++ [⟨1, 0, 2⟩]) := okE_snoc hE1 ⟨by decide, by decide⟩
    have hE3 : okE (E ++ [⟨0, 0, 1⟩] ++ [⟨1, 0, 2⟩] ++ [⟨2, 0, 2⟩]) := okE_snoc hE2 ⟨by decide, by decide⟩
    have hE4 : okE (E ++ [⟨0, 0, 1⟩] ++ [⟨1, 0, 2⟩] ++ [⟨3, 0, 4⟩]) := okE_snoc hE2 ⟨by decide, by decide⟩
    have hj : ((k + 1 : Nat) : Int) - 1 = (k : Int) := by push_cast; omega
    match m with
    | 0 =>
      rw [run0 _ _ _ l_ok0]
      exact ⟨hE, by rw [if_pos (by omega)]; exact ⟨rfl, by simp⟩⟩
    | 1 =>
      rw [runSub 0 _ _ (by push_cast; omega) (by push_cast; omega), run0 _ _ _ l_ok1]
      exact ⟨hE1, by rw [if_pos (by omega)]; exact ⟨rfl, by simp⟩⟩
    | 2 =>
      rw [runSub 1 _ _ (by push_cast; omega) (by push_cast; omega), runJz 0, run0 _ _ _ (by split; exact l_ok3; exact l_ok2)]
      exact ⟨hE2, by rw [if_pos (by omega)]; exact ⟨rfl, by simp⟩⟩
    | m + 3 =>
      rw [runSub (m + 2) _ _ (by push_cast; omega) (by push_cast; omega), hj, runJz (m + 1)]
      by_cases hk : k = 0
      · subst hk
        rw [if_pos (show ((0 : Nat) : Int) = 0 from rfl), runExit]
        refine ⟨hE4, ?_⟩
        rw [if_neg (by omega)]
        exact ⟨rfl, by simp, rfl, rfl, by rw [sumCo_snoc, sumCo_snoc, sumCo_snoc]; simp; omega⟩
      · rw [if_neg (by omega), runJmp m]
        have ih := loop_is k m _ (by omega) (by omega) hE3
        refine ⟨ih.1, ?_⟩
        have ih2 := ih.2
        simp only [sumCo_snoc, List.length_append, List.length_cons, List.length_nil] at ih2
        split
        · rw [if_pos (by omega)] at ih2
          exact ⟨ih2.1, by rw [ih2.2]; omega⟩
        · rw [if_neg (by omega)] at ih2
          exact ⟨ih2.1, by rw [ih2.2.1]; omega, ih2.2.2.1, ih2.2.2.2.1, by rw [ih2.2.2.2.2]; push_cast; omega⟩
theorem l_run (k m : Nat) (k0 : 1 ≤ k) (k1 : k ≤ 20) (m1 : m ≤ 119) (g : Nat) (w : World) (hC : CL w (some ⟨g, 0, none⟩) lCode) (hg : g < w.heap.size) : Calls Try.prog 9 #[.slice (some ⟨g, 0, none⟩) 4 4, .int .i64 0, (Cel.regs (LR k)).val, .pointer none, .int .i64 m] w fun e w' =>
    ∃ f A c base, e = .returned (Cel.res f.1.R (.slice A f.1.E.length c) f.2 f.1.p).val ∧ f.1.R.length = 32 ∧ LoopIs m k [] f ∧ EvRow w' base (.slice A f.1.E.length c) f.1.E ∧ w.heap.size ≤ base ∧ Below w.heap.size w w' :=
  (run_nil lCode (some ⟨g, 0, none⟩) 4 0 m (LR k) w hC (fun b o h => by cases h; exact hg) (LR_ok (by omega) (by omega)) (by decide) (by decide) (by omega) (runS 0 [] lCode m ⟨LR k, [], 0, []⟩) (by rw [Int.toNat_natCast])).mono fun e w' h => by
    obtain ⟨A, c, base, h1, h2, h3, h4, h5⟩ := h
    exact ⟨_, A, c, base, h1, h5.1, loop_is k m [] k0 k1 (fun x hx => by cases hx), h2, h3, h4⟩
end Go.Proofs.Yteflboidbogegaa
