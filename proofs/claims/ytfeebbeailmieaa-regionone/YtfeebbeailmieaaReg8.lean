/- A row of regions of the call's own; RegionLimits, walked. -/
import Derived.Test.YtfeebbeailmieaaReg7
namespace Go.Proofs.Ytfeebbeailmieaa
open Go.ChangeShapes Go.WideShapes Go.ChangeAt Go.RowKit
set_option linter.unusedVariables false
set_option linter.unusedSimpArgs false

def Reg.cells (r : Reg) : List Value := [.int .u32 r.fr, .int .u32 r.ln, .bool r.rd, .bool r.wr, .bool r.ex, .bool r.se, .slice r.ba r.bl r.bc]
def cellsOf (rs : List Reg) : List Value := rs.flatMap Reg.cells
def regAt (rs : List Reg) (i : Nat) : Reg := rs.getD i noReg

theorem cellsOf_length (rs : List Reg) : (cellsOf rs).length = rs.length * 7 := by
  induction rs with
  | nil => rfl
  | cons r rs ih =>
    simp only [cellsOf, List.flatMap_cons, List.length_append, List.length_cons] at ih ⊢
    rw [ih]
    simp [Reg.cells]
    omega
theorem cellsOf_append (rs : List Reg) (r : Reg) : cellsOf (rs ++ [r]) = cellsOf rs ++ r.cells := by simp [cellsOf]
theorem cellsOf_at (rs : List Reg) (i j : Nat) (hi : i < rs.length) (hj : j < 7) : (cellsOf rs)[i * 7 + j]? = (regAt rs i).cells[j]? := by
  induction rs generalizing i with
  | nil => simp at hi
  | cons r rs ih =>
    have hc : cellsOf (r :: rs) = r.cells ++ cellsOf rs := by simp [cellsOf]
    rw [hc]
    match i with
    | 0 =>
      rw [List.getElem?_append_left (by simp [Reg.cells]; omega)]
      simp [regAt]
    | i + 1 =>
      rw [List.getElem?_append_right (by simp [Reg.cells]; omega)]
      have h := ih i (by simpa using hi)
      have e1 : (i + 1) * 7 + j - r.cells.length = i * 7 + j := by simp [Reg.cells]; omega
      rw [e1, h]
      simp [regAt]

theorem lies_own {w : World} {base : Nat} {v : Value} {n : Nat} {rs : List Reg} (h : w.ownsRow base 36 7 v n (cellsOf rs)) (hl : rs.length = n) (hw : ∀ r ∈ rs, r.wf) :
    ∃ A c, v = .slice A n c ∧ Lies w A n (regAt rs) := by
  have h' := h
  obtain ⟨_, ⟨rfl, rfl⟩ | ⟨g, cap, cur, rfl, hb, hg, hc, hm, _⟩⟩ := h
  · exact ⟨none, 0, rfl, by decide, fun i hi => absurd hi (Nat.not_lt_zero _)⟩
  · refine ⟨some ⟨g, 0, none⟩, cap, rfl, ?_, fun i hi => ⟨?_, g, 0, rfl, ?_⟩⟩
    · simp only [maxLen] at hm
      omega
    · have hi' : i < rs.length := by omega
      have : regAt rs i = rs[i] := by simp [regAt, List.getD, hi']
      rw [this]
      exact hw _ (List.getElem_mem hi')
    · have key : ∀ j, j < 7 → w.cell? ⟨g, 0 + i * 7 + j, none⟩ = (regAt rs i).cells[j]? := fun j hj => by
        rw [Nat.zero_add, h'.cellAt (i * 7 + j) (by omega)]
        exact cellsOf_at rs i j (by omega) hj
      exact ⟨key 0 (by decide), key 1 (by decide), key 2 (by decide), key 3 (by decide), key 4 (by decide), key 5 (by decide), key 6 (by decide)⟩

theorem info36 : (Try.prog.info? 36).map (fun i => (i.zero, i.size, i.bytes)) = some (some (.agg #[.int .u32 0, .int .u32 0, .bool false, .bool false, .bool false, .bool false, .slice none 0 0]), 7, 40) := by kernel_rfl

theorem new_cells (w : World) (r : Reg) : ∀ j u, r.cells[j]? = some u → (w.alloc (Obj.cells #[.int .u32 r.fr, .int .u32 r.ln, .bool r.rd, .bool r.wr, .bool r.ex, .bool r.se, .slice r.ba r.bl r.bc] 36)).cell? ((⟨w.heap.size, 0, none⟩ : Addr).add j) = some u := by
  intro j u hj
  have hadd : (⟨w.heap.size, 0, none⟩ : Addr).add j = ⟨w.heap.size, j, none⟩ := by unfold Addr.add; split <;> simp_all
  rw [hadd, World.cell?_alloc_new, ← hj]
  simp [Reg.cells]
theorem one_cells (r : Reg) : ∀ u ∈ r.cells, u.oneCell' = true := by
  intro u hu
  simp only [Reg.cells, List.mem_cons, List.not_mem_nil, or_false] at hu
  rcases hu with rfl | rfl | rfl | rfl | rfl | rfl | rfl <;> rfl

def limR (i : Nat) : Reg := ⟨8 * i, 8, true, false, false, false, none, 0, 0⟩
def limRel (w : World) (k : Nat) (v i : Value) (wr : World) : Prop :=
  ∃ j : Nat, j ≤ k ∧ i = .int .i64 j ∧ wr.ownsRow w.heap.size 36 7 v j (cellsOf ((List.range j).map limR)) ∧ Below w.heap.size w wr

def two (K : Int) : Nat → Reg
  | 0 => ⟨0, K, true, false, false, false, none, 0, 0⟩
  | _ => ⟨K, 4, true, false, false, false, none, 0, 0⟩
theorem two_lies (w : World) (K : Int) (h0 : 0 ≤ K) (h1 : K ≤ 4294967295) : Lies (w.alloc (Obj.cells #[.int .u32 0, .int .u32 K, .bool true, .bool false, .bool false, .bool false, .slice none 0 0, .int .u32 K, .int .u32 4, .bool true, .bool false, .bool false, .bool false, .slice none 0 0] 36)) (some ⟨w.heap.size, 0, none⟩) 2 (two K) := by
  refine ⟨by decide, fun i hi => ?_⟩
  have h4 : i = 0 ∨ i = 1 := by omega
  rcases h4 with rfl | rfl
  · refine ⟨⟨by simp [two], by simp [two], h0, h1, by simp [two]⟩, w.heap.size, 0, rfl, ?_⟩
    refine ⟨?_, ?_, ?_, ?_, ?_, ?_, ?_⟩ <;> (rw [World.cell?_alloc_new]; rfl)
  · refine ⟨⟨h0, h1, by simp [two], by simp [two], by simp [two]⟩, w.heap.size, 0, rfl, ?_⟩
    refine ⟨?_, ?_, ?_, ?_, ?_, ?_, ?_⟩ <;> (rw [World.cell?_alloc_new]; rfl)

set_option maxHeartbeats 4000000 in
theorem limits_two (n long : Int) (hl0 : 0 ≤ long) (hl1 : long ≤ 4294967295) (w : World) : Calls Try.prog 4 #[.int .u8 n, .int .u32 long, .bool false] w fun e w' => e = .returned (.bool true) ∧ Below w.heap.size w w' := by
  have K : Hid _ := fun (w : World) => known_c w
  have hm : long % 5 = 0 ∨ long % 5 = 1 ∨ long % 5 = 2 ∨ long % 5 = 3 ∨ long % 5 = 4 := by omega
  have C : Hid _ := fun (w : World) (k : Int) (h0 : 0 ≤ k) (h1 : k ≤ 4294967295) => check_c _ 2 2 (two k) _ (two_lies w k h0 h1)
  rcases hm with hm | hm | hm | hm | hm
  all_goals
    go_enter Try.func4, Try.ntmps4
    go_wp2_with fail
    refine (K.out _).mono ?_
    rintro e w1 ⟨rfl, hw1⟩
    have HB : Hid _ := hw1
    clear hw1
    go_wp2_with fail
    refine (C.out w1 _ (by decide) (by decide)).mono ?_
    rintro e w2 ⟨he, hw2⟩
    subst he
    first
      | rw [show checkS (two 65528) 2 = 0 by decide +kernel]
      | rw [show checkS (two 65532) 2 = 0 by decide +kernel]
      | rw [show checkS (two 65536) 2 = 22 by decide +kernel]
      | rw [show checkS (two 65540) 2 = 22 by decide +kernel]
      | rw [show checkS (two 65544) 2 = 22 by decide +kernel]
    have HB2 : Hid (Below w.heap.size w w2) := (HB.out.alloc HB.out.size _).trans (hw2.mono (by rw [alloc_size']; exact Nat.le_succ_of_le HB.out.size))
    clear hw2
    go_wp2
    go_ret
    exact ⟨rfl, HB2.out⟩

set_option maxHeartbeats 4000000 in
theorem limits_many (n long : Int) (hn0 : 0 ≤ n) (hn1 : n ≤ 255) (w : World) : Calls Try.prog 4 #[.int .u8 n, .int .u32 long, .bool true] w fun e w' => e = .returned (.bool true) ∧ Below w.heap.size w w' := by
  have K : Hid _ := fun (w : World) => known_c w
  obtain ⟨i0, hi, hz0, hz1, hz2⟩ := info_parts info36
  obtain ⟨m, hm, hm5⟩ : ∃ m : Nat, n % 6 = (m : Int) ∧ m ≤ 5 := ⟨(n % 6).toNat, by omega, by omega⟩
  go_enter Try.func4, Try.ntmps4
  go_wp2_with fail
  refine (K.out _).mono ?_
  rintro e w1 ⟨rfl, hw1⟩
  have HB : Hid _ := hw1
  clear hw1
  go_wp2_with fail
  clear hm
  go_loopw [7, 9] (fun v i wr => limRel w1 (m + 5) v i wr) (fun _ i _ => m + 5 - (intOf i).toNat)
  case atStart => exact ⟨0, Nat.zero_le _, rfl, World.ownsRow_nil _ _ _ _, Below.refl _ _⟩
  case round =>
    obtain ⟨j, hj, rfl, ho, hb⟩ := hrel
    by_cases hjk : j < m + 5
    · have hjk' : (j : Int) < m + 5 := by omega
      have hsz := hb.size
      have HB1 : Hid _ := hb
      clear hb
      have hu : (j : Int) * 8 = 8 * (j : Int) := by omega
      go_wp2_with (first
        | (at_builtin; refine wpList_append_own _ rfl _ _ 22 rfl w1.heap.size 36 i0 _ 7 40 Try.underlying22 hi hz0 hz1 hz2 rfl (by decide) _ j (cellsOf ((List.range j).map limR)) rfl (ho.alloc _) ⟨wr.heap.size, 0, none⟩ 1 1 (limR j).cells rfl rfl (new_cells wr (limR j)) (one_cells _) (by simp only [maxLen]; omega) (by omega) (by rw [alloc_size']; omega) ?_)
        | fail)
      intro v' w3 ho' hg _
      have HR : Hid (limRel w1 (m + 5) v' (.int .i64 ((j : Int) + 1)) w3) := by
        refine ⟨j + 1, hjk, by push_cast; rfl, ?_, Below.grown (Below.alloc HB1.out hsz _) hg (by rw [alloc_size']; omega) (fun k hk => (ho.lt k hk).1)⟩
        rw [List.range_succ, List.map_append, List.map_cons, List.map_nil, cellsOf_append]
        exact ho'
      clear ho' hg HB1 ho hsz hi hz0 hz1 hz2
      go_wp2
      go_roundw
      case rel => exact HR.out
      case measure =>
        show m + 5 - ((j : Int) + 1).toNat < m + 5 - (j : Int).toNat
        omega
    · have jk : j = m + 5 := by omega
      subst jk
      obtain ⟨A, c, rfl, hl⟩ := lies_own ho (by simp) (by
        intro r hr
        obtain ⟨x, hx, rfl⟩ := List.mem_map.1 hr
        have hx' : x < m + 5 := List.mem_range.1 hx
        refine ⟨?_, ?_, by simp [limR], by simp [limR], by simp [limR]⟩
        · simp only [limR]; omega
        · simp only [limR]; omega)
      have C : Hid _ := check_c A (m + 5) c _ wr hl
      have HB1 : Hid (Below w.heap.size w wr) := HB.out.trans (hb.mono HB.out.size)
      clear hl ho hb hi hz0 hz1 hz2 hjk hj
      have h6 : m = 0 ∨ m = 1 ∨ m = 2 ∨ m = 3 ∨ m = 4 ∨ m = 5 := by omega
      rcases h6 with rfl | rfl | rfl | rfl | rfl | rfl
      all_goals
        first
          | rw [show checkS (regAt ((List.range (0 + 5)).map limR)) (0 + 5) = 0 by decide +kernel] at C
          | rw [show checkS (regAt ((List.range (1 + 5)).map limR)) (1 + 5) = 0 by decide +kernel] at C
          | rw [show checkS (regAt ((List.range (2 + 5)).map limR)) (2 + 5) = 0 by decide +kernel] at C
          | rw [show checkS (regAt ((List.range (3 + 5)).map limR)) (3 + 5) = 0 by decide +kernel] at C
          | rw [show checkS (regAt ((List.range (4 + 5)).map limR)) (4 + 5) = 22 by decide +kernel] at C
          | rw [show checkS (regAt ((List.range (5 + 5)).map limR)) (5 + 5) = 22 by decide +kernel] at C
        go_wp2_with fail
        refine Calls.mono C.out ?_
        rintro e w2 ⟨rfl, hw2⟩
        have HB2 : Hid (Below w.heap.size w w2) := HB1.out.trans (hw2.mono HB1.out.size)
        clear hw2
        go_wp2
        go_ret
        exact ⟨rfl, HB2.out⟩

theorem limits_c (n long : Int) (wh : Bool) (hn0 : 0 ≤ n) (hn1 : n ≤ 255) (hl0 : 0 ≤ long) (hl1 : long ≤ 4294967295) (w : World) :
    Calls Try.prog 4 #[.int .u8 n, .int .u32 long, .bool wh] w fun e w' => e = .returned (.bool true) ∧ Below w.heap.size w w' := by
  cases wh
  · exact limits_two n long hl0 hl1 w
  · exact limits_many n long hn0 hn1 w
end Go.Proofs.Ytfeebbeailmieaa
