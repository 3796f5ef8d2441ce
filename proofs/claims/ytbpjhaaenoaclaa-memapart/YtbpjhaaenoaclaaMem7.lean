/- Bytes as strings; bytes.Equal, sameRegion, slices.EqualFunc, Same: walked where both sides are alike. -/
import Derived.Test.YtbpjhaaenoaclaaMem6
import Derived.Laws.BytesString
namespace Go.Proofs.Ytbpjhaaenoaclaa
open Go.ChangeShapes Go.WideShapes Go.ChangeAt Go.RowKit
set_option linter.unusedVariables false
set_option linter.unusedSimpArgs false

def strS (bs : List Int) : ByteArray := bs.foldl (fun r n => r.push (UInt8.ofNat n.toNat)) ByteArray.empty
/-- The bytes behind a slice, turned into a string. -/
theorem BL.str {w : World} {S : Nat → Prop} {v : Value} {bs : List Int} (h : BL w S v bs) : (convert 22 9 v).run Try.prog w = .ok (.string (strS bs)) w := by
  have h0 := h
  obtain ⟨_, A, c, rfl, hA, _⟩ := h
  rw [run_convert_bytes_string w 22 9 5 A bs.length c Try.underlying22 Try.underlying5 Try.underlying9]
  cases A with
  | none =>
    obtain ⟨rfl, rfl⟩ := hA rfl
    rfl
  | some A =>
    refine run_bytesToString w A bs.length c bs ?_
    have := run_loadCells_list (P := Try.prog) w A (cb bs) h0.news
    rw [cb_length] at this
    exact this

set_option maxHeartbeats 1000000 in
theorem equal_c (v1 v2 : Value) (bs : List Int) (S1 S2 : Nat → Prop) (w : World) (h1 : BL w S1 v1 bs) (h2 : BL w S2 v2 bs) :
    Calls Try.prog 42 #[v1, v2] w fun e w' => e = .returned (.bool true) ∧ w' = w := by
  have e1 := h1.str
  have e2 := h2.str
  clear h1 h2
  go_enter Try.func42, Try.ntmps42
  go_wp2
  go_ret
  exact ⟨rfl, rfl⟩

set_option maxHeartbeats 8000000 in
theorem sameRegion_c (r1 r2 : Reg) (bs : List Int) (S1 S2 : Nat → Prop) (w : World) (hb : r1.bare = r2.bare) (h1 : BL w S1 (.slice r1.ba r1.bl r1.bc) bs) (h2 : BL w S2 (.slice r2.ba r2.bl r2.bc) bs) :
    Calls Try.prog 40 #[r1.val, r2.val] w fun e w' => e = .returned (.bool true) ∧ Below w.heap.size w w' := by
  have C : Hid (∀ w1, Below w.heap.size w w1 → Calls Try.prog 42 #[.slice r1.ba r1.bl r1.bc, .slice r2.ba r2.bl r2.bc] w1 fun e w' => e = .returned (.bool true) ∧ w' = w1) := fun w1 hb1 => equal_c _ _ bs S1 S2 w1 (h1.below hb1) (h2.below hb1)
  clear h1 h2
  obtain ⟨fr, ln, rd, wr, ex, se, ba1, bl, bc1⟩ := r1
  obtain ⟨fr', ln', rd', wr', ex', se', ba2, bl', bc2⟩ := r2
  simp only [Reg.bare, Reg.mk.injEq] at hb
  obtain ⟨rfl, rfl, rfl, rfl, rfl, rfl, _, rfl, _⟩ := hb
  simp only [Reg.val] at C ⊢
  have HB : Hid (∀ o1 o2, Below w.heap.size w ((w.alloc o1).alloc o2)) := fun o1 o2 => ((Below.refl _ _).alloc (Nat.le_refl _) o1).alloc (by rw [alloc_size']; omega) o2
  cases rd <;> cases wr <;> cases ex <;> cases se
  all_goals
    go_enter Try.func40, Try.ntmps40
    go_wp2_with fail
    refine (C.out _ (HB.out _ _)).mono ?_
    rintro e w2 ⟨rfl, hw2⟩
    subst hw2
    go_wp2
    go_ret
    exact ⟨rfl, HB.out _ _⟩

def eqRel (w : World) (n : Nat) (i : Value) (wr : World) : Prop := ∃ k : Nat, k ≤ n ∧ i = .int .i64 k ∧ Below w.heap.size w wr

set_option maxHeartbeats 4000000 in
theorem equalRegions_c (v1 v2 : Value) (Bs : List Reg) (G : List (List Int)) (S1 S2 : Nat → Prop) (w : World) (h1 : RL w S1 v1 Bs G) (h2 : RL w S2 v2 Bs G) :
    Calls Try.prog 39 #[v1, v2, .func (.func 40) #[] #[]] w fun e w' => e = .returned (.bool true) ∧ Below w.heap.size w w' := by
  obtain ⟨rs1, hb1, hg1, A1, c1, rfl, _, _, hL1, hB1⟩ := h1
  obtain ⟨rs2, hb2, hg2, A2, c2, rfl, _, _, hL2, hB2⟩ := h2
  have hlen : rs2.length = rs1.length := by rw [← hg2, hg1]
  have hbare : rs1.map Reg.bare = rs2.map Reg.bare := by rw [hb1, hb2]
  have hn := hL1.1
  have C : Hid (∀ k, k < rs1.length → ∀ w1, Below w.heap.size w w1 → Calls Try.prog 40 #[(regAt rs1 k).val, (regAt rs2 k).val] w1 fun e w' => e = .returned (.bool true) ∧ Below w1.heap.size w1 w') := fun k hk w1 hw1 => by
    obtain ⟨g, hg⟩ : ∃ g, G[k]? = some g := ⟨G[k]'(by rw [hg1]; exact hk), by simp⟩
    have hr1 : rs1[k]? = some (regAt rs1 k) := by simp [regAt, List.getD, hk]
    have hr2 : rs2[k]? = some (regAt rs2 k) := by simp [regAt, List.getD, hlen, hk]
    exact sameRegion_c _ _ g S1 S2 w1 (bare_at hbare k) ((hB1 k _ g hr1 hg).2.below hw1) ((hB2 k _ g hr2 hg).2.below hw1)
  rw [hlen] at hL2 ⊢
  have H1 : Hid _ := hL1
  have H2 : Hid _ := hL2
  clear hB1 hB2 hb1 hb2 hg1 hg2 hL1 hL2 hbare hlen
  go_enter Try.func39, Try.ntmps39
  go_wp2_with fail
  go_loopw [17] (fun i wr => eqRel w rs1.length i wr) (fun i _ => rs1.length - (intOf i).toNat)
  case atStart => exact ⟨0, Nat.zero_le _, rfl, Below.refl _ _⟩
  case round =>
    obtain ⟨k, hk, rfl, hb⟩ := hrel
    by_cases hkn : k < rs1.length
    · have hkn' : (k : Int) < rs1.length := by omega
      obtain ⟨_, b1, o1, rfl, h71⟩ := H1.out.2 k hkn
      obtain ⟨_, b2, o2, rfl, h72⟩ := H2.out.2 k hkn
      obtain ⟨c0, c1, c2, c3, c4, c5, c6⟩ := h71.below hb h71.lt
      obtain ⟨d0, d1, d2, d3, d4, d5, d6⟩ := h72.below hb h72.lt
      have hb2l : b2 < wr.heap.size := (h72.below hb h72.lt).lt
      have key : ∀ o j, (wr.alloc o).cell? ⟨b2, j, none⟩ = wr.cell? ⟨b2, j, none⟩ := fun o j => World.cell?_alloc_lt wr o ⟨b2, j, none⟩ hb2l
      have d0' := fun o => (key o _).trans d0
      have d1' := fun o => (key o _).trans d1
      have d2' := fun o => (key o _).trans d2
      have d3' := fun o => (key o _).trans d3
      have d4' := fun o => (key o _).trans d4
      have d5' := fun o => (key o _).trans d5
      have d6' := fun o => (key o _).trans d6
      clear key d0 d1 d2 d3 d4 d5 d6
      have CC : Hid _ := C.out k hkn
      have HB : Hid _ := hb
      have HB2 : Hid (∀ o1 o2, Below w.heap.size w ((wr.alloc o1).alloc o2)) := fun o1 o2 => (hb.alloc hb.size o1).alloc (by rw [alloc_size']; have := hb.size; omega) o2
      clear h71 h72 hb
      go_wp2_with fail
      refine (CC.out _ (HB2.out _ _)).mono ?_
      rintro e w2 ⟨rfl, hw2⟩
      have HB3 : Hid (Below w.heap.size w w2) := (HB2.out _ _).trans (hw2.mono (HB2.out _ _).size)
      clear hw2
      go_wp2
      refine ⟨⟨k + 1, hkn, by push_cast; rfl, HB3.out⟩, ?_⟩
      simp only [intOf]
      omega
    · have kn' : ¬ (k : Int) < rs1.length := by omega
      have HB : Hid _ := hb
      clear hb
      go_wp2
      go_ret
      exact ⟨rfl, HB.out⟩
end Go.Proofs.Ytbpjhaaenoaclaa
