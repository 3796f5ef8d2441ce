/- Stage 9: the document: a list of registers. -/
import Derived.Test.YtigmekboikgoaaaWg1
namespace Go.Proofs.Ytigmekboikgoaaa
open Go.ChangeShapes Go.WideShapes Go.ChangeAt Go.RowKit
set_option linter.unusedVariables false
set_option linter.unusedSimpArgs false

theorem info3 : (Try.prog.info? 3).map (fun i => (i.zero, i.size, i.bytes)) = some (some (.int .i64 0), 1, 8) := by kernel_rfl
theorem alloc_sizeL (w : World) (o : Obj) : (w.alloc o).heap.size = w.heap.size + 1 := by
  show (w.heap.push o).size = _
  simp
theorem one_newL (w : World) (x : Value) : ∀ j u, [x][j]? = some u → (w.alloc (Obj.cells #[x] 3)).cell? ((⟨w.heap.size, 0, none⟩ : Addr).add j) = some u := by
  intro j u hj
  match j, hj with
  | 0, hj =>
    simp only [List.getElem?_cons_zero, Option.some.injEq] at hj
    subst hj
    rw [show (⟨w.heap.size, 0, none⟩ : Addr).add 0 = ⟨w.heap.size, 0, none⟩ from rfl, World.cell?_alloc_new]
    rfl
theorem i64_bitv' (x n : Nat) (hx : x < 65536) : bits .and .i64 ((x : Int) / 2 ^ n) 1 = ((fd x n 1 : Nat) : Int) := by
  have : x / 2 ^ n ≤ x := Nat.div_le_self _ _
  rw [show ((x : Int) / 2 ^ n) = ((x / 2 ^ n : Nat) : Int) by simp, show (1 : Int) = ((2 ^ 1 - 1 : Nat) : Int) from rfl, (bits_nat .i64 33 (by decide) (fun n h1 h2 => by rw [IntKind.wrap_i64]; omega) _ _ (by omega) (by decide)).1, fd_land]
theorem popN_le (m : Nat) : ∀ r, popN m r ≤ r
  | 0 => Nat.le_refl _
  | r + 1 => by
    have := popN_le m r
    have := fd_lt m r 1
    show popN m r + fd m r 1 ≤ r + 1
    omega
def liRel (w wr : World) (m : Nat) (v j : Value) : Prop := Below w.heap.size w wr ∧ ∃ r : Nat, r ≤ 16 ∧ j = .int .i64 (r : Nat) ∧ ∃ xs, wr.ownsRow w.heap.size 3 1 v (popN m r) xs
set_option maxHeartbeats 4000000 in
set_option maxRecDepth 100000 in
theorem rlist_c (m : Nat) (hm : m < 65536) (w : World) : Calls Try.prog 65 #[.int .i64 m, .bool true] w fun e w' => (∃ p n c, e = .returned (.slice p n c) ∧ n = popN m 16) ∧ Below w.heap.size w w' := by
  obtain ⟨i0, hi, hz0, hz1, hz2⟩ := info_parts info3
  have hm0 : (0 : Int) ≤ (m : Int) := by omega
  have hst : liRel w w m (.slice none 0 0) (.int .i64 0) := ⟨Below.refl _ _, 0, Nat.zero_le _, rfl, [], rfl, .inl ⟨rfl, rfl⟩⟩
  go_enter Try.func65, Try.ntmps65
  go_wp2_with fail
  go_loopw [5, 6] (fun v j wr => liRel w wr m v j) (fun _ j _ => 16 - (intOf j).toNat)
  case atStart => exact hst
  case round =>
    clear hst
    obtain ⟨hb, r, hr, rfl, xs, ho⟩ := hrel
    have hsz := hb.size
    have HB : Hid _ := hb
    clear hb
    have hpl := popN_le m r
    rcases (show r = 16 ∨ r < 16 by omega) with rfl | hlt
    · have HO : Hid _ := ho
      clear ho hr hpl
      go_wp2
      go_ret
      refine ⟨?_, HB.out⟩
      rcases HO.out.2 with ⟨e, h0⟩ | ⟨g, cap, cur, e, _⟩
      · exact ⟨_, _, _, congrArg Ending.returned e, h0.symm⟩
      · exact ⟨_, _, _, congrArg Ending.returned e, rfl⟩
    · have kn := i64_bitv' m r hm
      have hf := fd_lt m r 1
      have hstep : Hid (popN m (r + 1) = popN m r + fd m r 1) := rfl
      have t1 : decide ((r : Int) < 16) = true := by simp; omega
      have t1p : ((r : Int) < 16) = True := by simp; omega
      rcases (show fd m r 1 = 0 ∨ fd m r 1 = 1 by omega) with e0 | e0
      · rw [e0] at kn
        have HO : Hid _ := ho
        have HS : Hid (popN m (r + 1) = popN m r) := by
          have := hstep.out
          rw [e0] at this
          exact this
        clear ho hpl hf e0 hstep
        go_wp2
        go_roundw
        case rel => exact ⟨HB.out, r + 1, hlt, by push_cast; rfl, xs, by rw [HS.out]; exact HO.out⟩
        case measure =>
          simp only [intOf]
          omega
      · rw [e0] at kn
        have HS : Hid (popN m (r + 1) = popN m r + 1) := by
          have := hstep.out
          rw [e0] at this
          exact this
        clear hf e0 hstep
        rcases (show r = 15 ∨ r < 15 by omega) with rfl | h15
        all_goals
          try have t2 : decide ((r : Int) < 15) = true := by simp; omega
          try have t2p : ((r : Int) < 15) = True := by simp; omega
          go_wp2_with (first
            | (at_builtin; refine wpList_append_own _ rfl _ _ 66 rfl w.heap.size 3 i0 (.int .i64 0) 1 8 Try.underlying66 hi hz0 hz1 hz2 rfl (by decide) _ _ xs rfl (ho.alloc _) ⟨wr.heap.size, 0, none⟩ 1 1 [.int .i64 _] rfl rfl (one_newL _ _) (by intro u hu; simp at hu; subst hu; rfl) (by simp only [maxLen]; omega) (by omega) (by rw [alloc_sizeL]; omega) ?_)
            | fail)
          intro v' w3 ho' hg _
          have HR' : Hid (Below w.heap.size w w3 ∧ ∃ xs, w3.ownsRow w.heap.size 3 1 v' (popN m _ + 1) xs) := ⟨Below.grown (Below.alloc HB.out hsz _) hg (by rw [alloc_sizeL]; omega) (fun k hk => (ho.lt k hk).1), _, ho'⟩
          clear ho' hg HB ho hsz hi hz0 hz1 hz2 hpl
          go_wp2
          go_roundw
          case rel => exact ⟨HR'.out.1, _, hlt, by push_cast; rfl, by rw [HS.out]; exact HR'.out.2⟩
          case measure =>
            simp only [intOf]
            omega
end Go.Proofs.Ytigmekboikgoaaa
