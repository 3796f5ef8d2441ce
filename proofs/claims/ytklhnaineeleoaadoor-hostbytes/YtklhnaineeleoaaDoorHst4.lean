/- Put, the program's, walked: nine bytes, or none. -/
import Derived.Test.YtklhnaineeleoaaDoorHByt
namespace Go.Proofs.YtklhnaineeleoaaDoor
open Go.ChangeShapes Go.WideShapes Go.ChangeAt Go.RowKit
set_option linter.unusedVariables false
set_option linter.unusedSimpArgs false

def nineS (h : HV) : List Int := [h.op, h.d, h.a, h.b, h.c, h.im % 256, h.im / 256 % 256, h.im / 65536 % 256, h.im / 16777216]
def putS (h : HV) : List Int := if rightS h then nineS h else []
def HV.small (h : HV) : Prop := 1 ≤ h.op ∧ h.op ≤ 31 ∧ 0 ≤ h.d ∧ h.d ≤ 31 ∧ 0 ≤ h.a ∧ h.a ≤ 31 ∧ 0 ≤ h.b ∧ h.b ≤ 31 ∧ 0 ≤ h.c ∧ h.c ≤ 31

theorem regOk_small {r : Int} {u : Bool} (h : regOk r u = true) : 0 ≤ r ∧ r ≤ 31 := by
  rw [regOk_of] at h
  simp only [Bool.and_eq_true, decide_eq_true_eq] at h
  omega
theorem right_small {h : HV} (hr : rightS h = true) : h.small := by
  unfold rightS isS at hr
  simp only [Bool.and_eq_true, decide_eq_true_eq] at hr
  obtain ⟨⟨h1, h2⟩, h3, h4, h5, h6, h7⟩ := hr
  have e3 := regOk_small h3
  have e4 := regOk_small h4
  have e5 := regOk_small h5
  have e6 := regOk_small h6
  exact ⟨by omega, by omega, e3.1, e3.2, e4.1, e4.2, e5.1, e5.2, e6.1, e6.2⟩
theorem nine_ok {h : HV} (hs : h.small) (hw : h.wf) : okB (nineS h) := by
  obtain ⟨op, d, a, b, c, im⟩ := h
  unfold HV.small at hs
  unfold HV.wf at hw
  simp only at hs hw
  intro x hx
  simp only [nineS, List.mem_cons, List.not_mem_nil, or_false] at hx
  rcases hx with rfl | rfl | rfl | rfl | rfl | rfl | rfl | rfl | rfl <;> omega
theorem put_ok {h : HV} (hw : h.wf) : okB (putS h) := by
  unfold putS
  cases hr : rightS h
  · intro x hx
    simp at hx
  · exact nine_ok (right_small hr) hw

set_option maxHeartbeats 4000000 in
theorem put_c (h : HV) (hw : h.wf) (w : World) : Calls Tryd.prog 11 #[h.val] w fun e w' => OwnPost w (putS h) e w' := by
  have C : Hid _ := fun w => right_c h w
  unfold putS
  cases hr : rightS h
  · rw [hr] at C
    obtain ⟨op, d, a, b, c, im⟩ := h
    simp only [HV.val] at *
    go_enter Tryd.func11, Tryd.ntmps11
    go_wp2_with fail
    refine (C.out _).mono ?_
    rintro e w1 ⟨rfl, hw1⟩
    have HE : Hid (OwnPost w [] (.returned (.slice none 0 0)) w1) := ⟨none, 0, rfl, World.ownsRow_nil _ _ _ _, ((Below.refl _ _).alloc (Nat.le_refl _) _).trans (hw1.mono (by simp [alloc_size']))⟩
    clear hw1 C
    go_wp2
    go_ret
    exact HE.out
  · have hs := right_small hr
    rw [hr] at C
    obtain ⟨op, d, a, b, c, im⟩ := h
    simp only [HV.val, HV.small, HV.wf] at *
    obtain ⟨s1, s2, s3, s4, s5, s6, s7, s8, s9, s10⟩ := hs
    obtain ⟨i1, i2⟩ := hw
    go_enter Tryd.func11, Tryd.ntmps11
    go_wp2_with fail
    refine (C.out _).mono ?_
    rintro e w1 ⟨rfl, hw1⟩
    obtain ⟨d0, d1, d2, d3, d4, d5⟩ := (At6.new w ⟨op, d, a, b, c, im⟩ 26).below hw1 (by simp [alloc_size'])
    simp only [Nat.zero_add] at d0 d1 d2 d3 d4 d5
    have HB : Hid (Below w.heap.size w w1) := ((Below.refl _ _).alloc (Nat.le_refl _) _).trans (hw1.mono (by simp [alloc_size']))
    clear hw1 C
    go_wp2
    go_ret
    refine ⟨some ⟨w1.heap.size, 0, none⟩, 9, rfl, own_mono (World.ownsRow_lit w1 (cb (nineS ⟨op, d, a, b, c, im⟩)).toArray 9 (Nat.le_refl _) (by decide) rfl) HB.out.size, HB.out.alloc HB.out.size _⟩

theorem one_new8 (w : World) (x : Value) : ∀ j u, [x][j]? = some u → (w.alloc (Obj.cells #[x] 5)).cell? ((⟨w.heap.size, 0, none⟩ : Addr).add j) = some u := by
  intro j u hj
  match j, hj with
  | 0, hj =>
    simp only [List.getElem?_cons_zero, Option.some.injEq] at hj
    subst hj
    rw [show (⟨w.heap.size, 0, none⟩ : Addr).add 0 = ⟨w.heap.size, 0, none⟩ from rfl, World.cell?_alloc_new]
    rfl

def fiveS (h : HV) : List Int := [h.op, h.d, h.a, h.b, h.c]
def rpRel (w : World) (h : HV) (v i : Value) (wr : World) : Prop :=
  ∃ k : Nat, k ≤ 4 ∧ i = .int .i64 k ∧ wr.ownsRow w.heap.size 5 1 v (5 + k) (cb ((nineS h).take (5 + k))) ∧ Below w.heap.size w wr

set_option maxHeartbeats 4000000 in
theorem rput_c (h : HV) (hw : h.wf) (w : World) : Calls Tryd.prog 12 #[h.val] w fun e w' => OwnPost w (putS h) e w' := by
  obtain ⟨i0, hi, hz0, hz1, hz2⟩ := info_parts infoByte
  have C : Hid _ := fun w => rright_c h w
  unfold putS
  cases hr : rightS h
  · rw [hr] at C
    obtain ⟨op, d, a, b, c, im⟩ := h
    simp only [HV.val] at *
    go_enter Tryd.func12, Tryd.ntmps12
    go_wp2_with fail
    refine (C.out _).mono ?_
    rintro e w1 ⟨rfl, hw1⟩
    have HE : Hid (OwnPost w [] (.returned (.slice none 0 0)) w1) := ⟨none, 0, rfl, World.ownsRow_nil _ _ _ _, ((Below.refl _ _).alloc (Nat.le_refl _) _).trans (hw1.mono (by simp [alloc_size']))⟩
    clear hw1 C
    go_wp2
    go_ret
    exact HE.out
  · have hs := right_small hr
    rw [hr] at C
    obtain ⟨op, d, a, b, c, im⟩ := h
    simp only [HV.val, HV.small, HV.wf] at *
    obtain ⟨s1, s2, s3, s4, s5, s6, s7, s8, s9, s10⟩ := hs
    obtain ⟨i1, i2⟩ := hw
    clear hr
    go_enter Tryd.func12, Tryd.ntmps12
    go_wp2_with fail
    refine (C.out _).mono ?_
    rintro e w1 ⟨rfl, hw1⟩
    obtain ⟨d0, d1, d2, d3, d4, d5⟩ := (At6.new w ⟨op, d, a, b, c, im⟩ 26).below hw1 (by simp [alloc_size'])
    simp only [Nat.zero_add] at d0 d1 d2 d3 d4 d5
    have HB : Hid (Below w.heap.size w w1) := ((Below.refl _ _).alloc (Nat.le_refl _) _).trans (hw1.mono (by simp [alloc_size']))
    clear hw1 C
    have hsz : w.heap.size < w1.heap.size := World.block_lt_of_cell? w1 _ d5
    have HST : Hid (rpRel w1 ⟨op, d, a, b, c, im⟩ (.slice (some ⟨w1.heap.size, 0, none⟩) 5 5) (.int .i64 0) (w1.alloc (Obj.cells #[Value.int IntKind.u8 op, Value.int IntKind.u8 d, Value.int IntKind.u8 a, Value.int IntKind.u8 b, Value.int IntKind.u8 c] 5))) :=
      ⟨0, by decide, rfl, World.ownsRow_lit w1 #[Value.int IntKind.u8 op, Value.int IntKind.u8 d, Value.int IntKind.u8 a, Value.int IntKind.u8 b, Value.int IntKind.u8 c] 5 (Nat.le_refl _) (by decide) rfl, (Below.refl _ _).alloc (Nat.le_refl _) _⟩
    go_wp2_with fail
    go_loopw [3, 4] (fun v i wr => rpRel w1 ⟨op, d, a, b, c, im⟩ v i wr) (fun _ i _ => 4 - (intOf i).toNat)
    case atStart => exact HST.out
    case round =>
      obtain ⟨k, hk, rfl, ho, hb⟩ := hrel
      have f5 : wr.cell? ⟨w.heap.size, 5, none⟩ = some (.int .u32 im) := (hb.cell hsz).trans d5
      have HR : Hid _ := hb
      have hw1 : w1.heap.size ≤ wr.heap.size := hb.size
      clear d0 d1 d2 d3 d4 d5 hb HST
      rcases (show k = 0 ∨ k = 1 ∨ k = 2 ∨ k = 3 ∨ k = 4 by omega) with rfl | rfl | rfl | rfl | rfl
      · have HO : Hid _ := ho
        go_wp2_with (first
          | (at_builtin; refine wpList_append_own _ rfl _ _ 29 rfl w1.heap.size 5 i0 (.int .u8 0) 1 1 Tryd.underlying29 hi hz0 hz1 hz2 rfl (by decide) _ 5 (cb ((nineS ⟨op, d, a, b, c, im⟩).take 5)) rfl (ho.alloc _) ⟨wr.heap.size, 0, none⟩ 1 1 [.int .u8 (im % 256)] rfl rfl (one_new8 _ _) (by intro u hu; simp at hu; subst hu; rfl) (by decide) (by decide) (by rw [alloc_size']; omega) ?_)
          | fail)
        intro v' w3 ho' hg _
        have HR' : Hid (rpRel w1 ⟨op, d, a, b, c, im⟩ v' (.int .i64 1) w3) := ⟨1, by decide, rfl, ho', Below.grown (HR.out.alloc hw1 _) hg (by rw [alloc_size']; omega) (fun k hk => (ho.lt k hk).1)⟩
        clear ho' hg ho HR HO hi hz0 hz1 hz2
        go_wp2
        exact ⟨HR'.out, by decide⟩
      · have HO : Hid _ := ho
        go_wp2_with (first
          | (at_builtin; refine wpList_append_own _ rfl _ _ 29 rfl w1.heap.size 5 i0 (.int .u8 0) 1 1 Tryd.underlying29 hi hz0 hz1 hz2 rfl (by decide) _ 6 (cb ((nineS ⟨op, d, a, b, c, im⟩).take 6)) rfl (ho.alloc _) ⟨wr.heap.size, 0, none⟩ 1 1 [.int .u8 (im / 256 % 256)] rfl rfl (one_new8 _ _) (by intro u hu; simp at hu; subst hu; rfl) (by decide) (by decide) (by rw [alloc_size']; omega) ?_)
          | fail)
        intro v' w3 ho' hg _
        have HR' : Hid (rpRel w1 ⟨op, d, a, b, c, im⟩ v' (.int .i64 2) w3) := ⟨2, by decide, rfl, ho', Below.grown (HR.out.alloc hw1 _) hg (by rw [alloc_size']; omega) (fun k hk => (ho.lt k hk).1)⟩
        clear ho' hg ho HR HO hi hz0 hz1 hz2
        go_wp2
        exact ⟨HR'.out, by decide⟩
      · have HO : Hid _ := ho
        go_wp2_with (first
          | (at_builtin; refine wpList_append_own _ rfl _ _ 29 rfl w1.heap.size 5 i0 (.int .u8 0) 1 1 Tryd.underlying29 hi hz0 hz1 hz2 rfl (by decide) _ 7 (cb ((nineS ⟨op, d, a, b, c, im⟩).take 7)) rfl (ho.alloc _) ⟨wr.heap.size, 0, none⟩ 1 1 [.int .u8 (im / 65536 % 256)] rfl rfl (one_new8 _ _) (by intro u hu; simp at hu; subst hu; rfl) (by decide) (by decide) (by rw [alloc_size']; omega) ?_)
          | fail)
        intro v' w3 ho' hg _
        have HR' : Hid (rpRel w1 ⟨op, d, a, b, c, im⟩ v' (.int .i64 3) w3) := ⟨3, by decide, rfl, ho', Below.grown (HR.out.alloc hw1 _) hg (by rw [alloc_size']; omega) (fun k hk => (ho.lt k hk).1)⟩
        clear ho' hg ho HR HO hi hz0 hz1 hz2
        go_wp2
        exact ⟨HR'.out, by decide⟩
      · have HO : Hid _ := ho
        go_wp2_with (first
          | (at_builtin; refine wpList_append_own _ rfl _ _ 29 rfl w1.heap.size 5 i0 (.int .u8 0) 1 1 Tryd.underlying29 hi hz0 hz1 hz2 rfl (by decide) _ 8 (cb ((nineS ⟨op, d, a, b, c, im⟩).take 8)) rfl (ho.alloc _) ⟨wr.heap.size, 0, none⟩ 1 1 [.int .u8 (im / 16777216)] rfl rfl (one_new8 _ _) (by intro u hu; simp at hu; subst hu; rfl) (by decide) (by decide) (by rw [alloc_size']; omega) ?_)
          | fail)
        intro v' w3 ho' hg _
        have HR' : Hid (rpRel w1 ⟨op, d, a, b, c, im⟩ v' (.int .i64 4) w3) := ⟨4, by decide, rfl, ho', Below.grown (HR.out.alloc hw1 _) hg (by rw [alloc_size']; omega) (fun k hk => (ho.lt k hk).1)⟩
        clear ho' hg ho HR HO hi hz0 hz1 hz2
        go_wp2
        exact ⟨HR'.out, by decide⟩
      · obtain ⟨A, c', rfl⟩ := own_shape ho
        have HE : Hid (OwnPost w (nineS ⟨op, d, a, b, c, im⟩) (.returned (.slice A 9 c')) wr) := ⟨A, c', rfl, own_mono ho (Nat.le_of_lt hsz), HB.out.trans (HR.out.mono (Nat.le_of_lt hsz))⟩
        clear ho HR HB
        go_wp2
        go_ret
        exact HE.out
end Go.Proofs.YtklhnaineeleoaaDoor
