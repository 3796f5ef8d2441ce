/- Stage 8: cond.It, walked at every condition and mask that a word can have. -/
import Derived.Test.YtplhblhopaheeaaGreatDoorYf
import Derived.Laws.AppendOwn
namespace Go.Proofs.YtplhblhopaheeaaGreatDoor
open Go.ChangeShapes Go.WideShapes Go.ChangeAt Go.RowKit
set_option linter.unusedVariables false
set_option linter.unusedSimpArgs false

def tzN (m : Nat) : Nat := [0, 0, 1, 0, 2, 0, 1, 0, 3, 0, 1, 0, 2, 0, 1, 0].getD m 0
theorem tzN_le (m : Nat) (h1 : 1 ≤ m) (h2 : m ≤ 15) : tzN m ≤ 3 := by
  rcases (show m = 1 ∨ m = 2 ∨ m = 3 ∨ m = 4 ∨ m = 5 ∨ m = 6 ∨ m = 7 ∨ m = 8 ∨ m = 9 ∨ m = 10 ∨ m = 11 ∨ m = 12 ∨ m = 13 ∨ m = 14 ∨ m = 15 by omega) with rfl | rfl | rfl | rfl | rfl | rfl | rfl | rfl | rfl | rfl | rfl | rfl | rfl | rfl | rfl <;> decide
end Go.Proofs.YtplhblhopaheeaaGreatDoor
namespace Go.Proofs.YtplhblhopaheeaaGreatDoor
open Go.ChangeShapes Go.WideShapes Go.ChangeAt Go.RowKit
set_option linter.unusedVariables false
set_option linter.unusedSimpArgs false

theorem info3 : (Tryz.prog.info? 3).map (fun i => (i.zero, i.size, i.bytes)) = some (some (.int .i64 0), 1, 8) := by kernel_rfl
theorem alloc_size' (w : World) (o : Obj) : (w.alloc o).heap.size = w.heap.size + 1 := by
  show (w.heap.push o).size = _
  simp
theorem one_new (w : World) (x : Value) : ∀ j u, [x][j]? = some u → (w.alloc (Obj.cells #[x] 3)).cell? ((⟨w.heap.size, 0, none⟩ : Addr).add j) = some u := by
  intro j u hj
  match j, hj with
  | 0, hj =>
    simp only [List.getElem?_cons_zero, Option.some.injEq] at hj
    subst hj
    rw [show (⟨w.heap.size, 0, none⟩ : Addr).add 0 = ⟨w.heap.size, 0, none⟩ from rfl, World.cell?_alloc_new]
    rfl
def itRel (w wr : World) (v i : Value) : Prop :=
  Below w.heap.size w wr ∧ ((i = .int .i64 3 ∧ ∃ xs, wr.ownsRow w.heap.size 3 1 v 1 xs) ∨ (i = .int .i64 2 ∧ ∃ xs, wr.ownsRow w.heap.size 3 1 v 2 xs) ∨ (i = .int .i64 1 ∧ ∃ xs, wr.ownsRow w.heap.size 3 1 v 3 xs) ∨ (i = .int .i64 0 ∧ ∃ xs, wr.ownsRow w.heap.size 3 1 v 4 xs))
end Go.Proofs.YtplhblhopaheeaaGreatDoor
namespace Go.Proofs.YtplhblhopaheeaaGreatDoor
open Go.ChangeShapes Go.WideShapes Go.ChangeAt Go.RowKit
set_option linter.unusedVariables false
set_option linter.unusedSimpArgs false

theorem i64_joinr (x y i : Nat) (hx : x % 2 ^ i = 0) (hx1 : x < 2 ^ 32) (hy : y < 2 ^ i) (hi : i ≤ 32) : bits .or .i64 (y : Int) (x : Int) = ((y + x : Nat) : Int) := by
  have h2 : 2 ^ i ≤ 2 ^ 32 := Nat.pow_le_pow_right (by decide) hi
  rw [(bits_nat .i64 33 (by decide) (fun n h1 h2 => by rw [IntKind.wrap_i64]; omega) y x (by omega) (by omega)).2]
  have hq : x = 2 ^ i * (x / 2 ^ i) := by
    have := Nat.div_add_mod x (2 ^ i)
    omega
  rw [Nat.or_comm, hq, ← Nat.two_pow_add_eq_or_of_lt hy (x / 2 ^ i), Nat.add_comm]
theorem list15 (h : Nat) : bits .or .i64 ((fd h 0 8 : Nat) : Int) ((fd h 8 1 : Nat) * 32768 : Int) = ((fd h 0 8 + fd h 8 1 * 32768 : Nat) : Int) := by
  have f1 : fd h 0 8 < 256 := fd_lt h 0 8
  have f2 : fd h 8 1 < 2 := fd_lt h 8 1
  exact i64_joinr (fd h 8 1 * 32768) (fd h 0 8) 8 (by omega) (by omega) (by omega) (by decide)
theorem list14 (h : Nat) : bits .or .i64 ((fd h 0 8 : Nat) : Int) ((fd h 8 1 : Nat) * 16384 : Int) = ((fd h 0 8 + fd h 8 1 * 16384 : Nat) : Int) := by
  have f1 : fd h 0 8 < 256 := fd_lt h 0 8
  have f2 : fd h 8 1 < 2 := fd_lt h 8 1
  exact i64_joinr (fd h 8 1 * 16384) (fd h 0 8) 8 (by omega) (by omega) (by omega) (by decide)
end Go.Proofs.YtplhblhopaheeaaGreatDoor
namespace Go.Proofs.YtplhblhopaheeaaGreatDoor
open Go.ChangeShapes Go.WideShapes Go.ChangeAt Go.RowKit
set_option linter.unusedVariables false
set_option linter.unusedSimpArgs false
set_option maxHeartbeats 20000000
set_option maxRecDepth 100000

theorem tzbit (m : Nat) (h1 : 1 ≤ m) (h2 : m ≤ 15) (k : Nat) (hk : k ≤ tzN m) : (bits .and .i64 ((m : Int) / 2 ^ k) 1 == 0) = decide (k < tzN m) := by
  have key : ∀ m : Fin 16, ∀ k : Fin 4, 1 ≤ m.val → k.val ≤ tzN m.val → (bits .and .i64 ((m.val : Int) / 2 ^ k.val) 1 == 0) = decide (k.val < tzN m.val) := by decide +kernel
  have := tzN_le m h1 h2
  exact key ⟨m, by omega⟩ ⟨k, by omega⟩ h1 hk
theorem rnot_c (c : Int) (w : World) : Calls Tryz.prog 114 #[.int .i64 c] w fun e w' => (∃ x : Int, e = .returned (.int .i64 x)) ∧ w' = w := by
  go_enter Tryz.func114, Tryz.ntmps114
  go_wp2
  all_goals (go_ret; exact ⟨⟨_, rfl⟩, rfl⟩)
theorem rit_ok (c m : Nat) (h1 : 1 ≤ m) (h2 : m ≤ 15) (q : c ≤ 13 ∨ c = 14 ∧ (m = 8 ∨ m = 4 ∨ m = 2 ∨ m = 1)) (w : World) : Calls Tryz.prog 68 #[.int .i64 c, .int .i64 m] w fun e w' => (∃ v, e = .returned (.tuple #[v, .bool true])) ∧ Below w.heap.size w w' := by
  obtain ⟨i0, hi, hz0, hz1, hz2⟩ := info_parts info3
  have N : Hid (∀ w, Calls Tryz.prog 114 #[.int .i64 c] w fun e w' => (∃ x : Int, e = .returned (.int .i64 x)) ∧ w' = w) := fun w => rnot_c c w
  have hT3 : Hid _ := tzN_le m h1 h2
  have BB : Hid (∀ k : Nat, k ≤ tzN m → (bits .and .i64 ((m : Int) / 2 ^ k) 1 == 0) = decide (k < tzN m)) := fun k hk => tzbit m h1 h2 k hk
  generalize tzN m = T at *
  have hm0 : (0 : Int) ≤ m := by omega
  have t1 : decide ((c : Int) < 0) = false := by simp
  have t2 : decide ((c : Int) > 14) = false := by simp; omega
  have t3 : decide ((m : Int) < 1) = false := by simp; omega
  have t4 : decide ((m : Int) > 15) = false := by simp; omega
  rcases (show (((c : Int) == 14) = false) ∨ (((c : Int) == 14) = true ∧ ((m : Int) != 8) = false) ∨ (((c : Int) == 14) = true ∧ ((m : Int) != 8) = true ∧ ((m : Int) != 4) = false) ∨ (((c : Int) == 14) = true ∧ ((m : Int) != 8) = true ∧ ((m : Int) != 4) = true ∧ ((m : Int) != 2) = false) ∨ (((c : Int) == 14) = true ∧ ((m : Int) != 8) = true ∧ ((m : Int) != 4) = true ∧ ((m : Int) != 2) = true ∧ ((m : Int) != 1) = false) by simp; omega) with t5 | ⟨t5, n8⟩ | ⟨t5, n8, n4⟩ | ⟨t5, n8, n4, n2⟩ | ⟨t5, n8, n4, n2, n1⟩
  all_goals
    clear q
    go_enter Tryz.func68, Tryz.ntmps68
    go_wp2_with fail
    go_loopw [6] (fun i wr => wr = w ∧ ∃ k : Nat, k ≤ T ∧ i = .int .i64 (k : Nat)) (fun i _ => 4 - (intOf i).toNat)
    case atStart => exact ⟨rfl, 0, Nat.zero_le _, rfl⟩
    case round =>
      obtain ⟨hw, k, hkT, rfl⟩ := hrel
      subst hw
      have tb := BB.out k hkT
      have k0 : (0 : Int) ≤ (k : Int) := by omega
      have k3 : (k : Int) ≤ 3 := by have := hT3.out; omega
      by_cases hlt : k < T
      · rw [decide_eq_true hlt] at tb
        have HL : Hid (k < T) := hlt
        clear hlt hkT
        go_wp2
        go_roundw
        case rel => exact ⟨by trivial, k + 1, HL.out, by push_cast; rfl⟩
        case measure =>
          simp only [intOf]
          omega
      · rw [decide_eq_false hlt] at tb
        clear hlt hkT BB hT3
        obtain ⟨w1, hw1⟩ : ∃ x, x = wr := ⟨wr, rfl⟩
        subst hw1
        have hst : Below w1.heap.size w1 (w1.alloc (Obj.cells #[Value.int IntKind.i64 c] 3)) ∧ ∃ j : Nat, j ≤ 3 ∧ Value.int .i64 3 = .int .i64 (j : Nat) ∧ ∃ xs, (w1.alloc (Obj.cells #[Value.int IntKind.i64 c] 3)).ownsRow w1.heap.size 3 1 (.slice (some ⟨w1.heap.size, 0, none⟩) 1 1) (4 - j) xs :=
          ⟨Below.alloc (Below.refl _ _) (Nat.le_refl _) _, 3, by decide, rfl, _, World.ownsRow_lit w1 #[Value.int IntKind.i64 c] 1 (Nat.le_refl _) (by decide) rfl⟩
        go_wp2_with fail
        go_loopw [7, 8] (fun v i wr => Below w1.heap.size w1 wr ∧ ∃ j : Nat, j ≤ 3 ∧ i = .int .i64 (j : Nat) ∧ ∃ xs, wr.ownsRow w1.heap.size 3 1 v (4 - j) xs) (fun _ i _ => (intOf i).toNat)
        case atStart => exact hst
        case round =>
          clear hst
          obtain ⟨hb, j, hj, rfl, xs, ho⟩ := hrel
          have hsz := hb.size
          have HB : Hid _ := hb
          have j0 : (0 : Int) ≤ (j : Int) := by omega
          have j3 : (j : Int) ≤ 3 := by omega
          clear hb
          by_cases hg : (k : Int) < (j : Int)
          · have tg : decide ((j : Int) > (k : Int)) = true := by simpa using hg
            have hj1 : 1 ≤ j := by omega
            obtain ⟨x, hx⟩ : ∃ x, (bits .and .i64 ((m : Int) / 2 ^ j) 1 == bits .and .i64 (c : Int) 1) = x := ⟨_, rfl⟩
            cases x
            rotate_left 1
            focus skip
            rotate_left 1
            focus
              go_wp2_with fail
              refine (N.out _).mono ?_
              rintro e w2 ⟨⟨x, rfl⟩, hw2⟩
              replace hw2 := hw2.symm
              subst hw2
              skip
            all_goals
              go_wp2_with (first
                | (at_builtin; refine wpList_append_own _ rfl _ _ 51 rfl w1.heap.size 3 i0 (.int .i64 0) 1 8 Tryz.underlying51 hi hz0 hz1 hz2 rfl (by decide) _ _ xs rfl (ho.alloc _) ⟨wr.heap.size, 0, none⟩ 1 1 [.int .i64 _] rfl rfl (one_new _ _) (by intro u hu; simp at hu; subst hu; rfl) (by simp only [maxLen]; omega) (by omega) (by rw [alloc_size']; omega) ?_)
                | fail)
              intro v' w3 ho' hgr _
              have HR' : Hid (Below w1.heap.size w1 w3 ∧ ∃ xs, w3.ownsRow w1.heap.size 3 1 v' (4 - (j - 1)) xs) := ⟨Below.grown (Below.alloc HB.out hsz _) hgr (by rw [alloc_size']; omega) (fun k hk => (ho.lt k hk).1), _, (show 4 - j + 1 = 4 - (j - 1) by omega) ▸ ho'⟩
              clear ho' hgr HB ho hsz N hi hz0 hz1 hz2
              go_wp2
              go_roundw
              case rel => exact ⟨HR'.out.1, j - 1, by omega, by rw [show ((j - 1 : Nat) : Int) = (j : Int) - 1 by omega], HR'.out.2⟩
              case measure =>
                simp only [intOf]
                omega
          · have tg : decide ((j : Int) > (k : Int)) = false := by simpa using hg
            clear hi hz0 hz1 hz2 N
            go_wp2
            go_ret2
            exact ⟨⟨_, rfl⟩, HB.out⟩
theorem rit_no (c m : Nat) (hc : c < 16) (h1 : 1 ≤ m) (h2 : m ≤ 15) (q : c = 15 ∨ c = 14 ∧ m ≠ 8 ∧ m ≠ 4 ∧ m ≠ 2 ∧ m ≠ 1) (w : World) : Calls Tryz.prog 68 #[.int .i64 c, .int .i64 m] w fun e w' => (∃ v, e = .returned (.tuple #[v, .bool false])) ∧ Below w.heap.size w w' := by
  have hm0 : (0 : Int) ≤ m := by omega
  have t1 : decide ((c : Int) < 0) = false := by simp
  have t3 : decide ((m : Int) < 1) = false := by simp; omega
  have t4 : decide ((m : Int) > 15) = false := by simp; omega
  rcases (show decide ((c : Int) > 14) = true ∨ (decide ((c : Int) > 14) = false ∧ ((c : Int) == 14) = true ∧ ((m : Int) != 8) = true ∧ ((m : Int) != 4) = true ∧ ((m : Int) != 2) = true ∧ ((m : Int) != 1) = true) by simp; omega) with t2 | ⟨t2, t5, n8, n4, n2, n1⟩
  all_goals
    clear q
    go_enter Tryz.func68, Tryz.ntmps68
    go_wp2
    go_ret2
    exact ⟨⟨_, rfl⟩, Below.refl _ _⟩
theorem rit_c (c m : Nat) (hc : c < 16) (h1 : 1 ≤ m) (h2 : m ≤ 15) (w : World) : Calls Tryz.prog 68 #[.int .i64 c, .int .i64 m] w fun e w' => (∃ v, e = .returned (.tuple #[v, .bool (itOk c m)])) ∧ Below w.heap.size w w' := by
  by_cases q : c ≤ 13 ∨ c = 14 ∧ (m = 8 ∨ m = 4 ∨ m = 2 ∨ m = 1)
  · rw [show itOk c m = true by unfold itOk; rcases q with q | ⟨rfl, rfl | rfl | rfl | rfl⟩ <;> simp [nbeq, nble, h1, *] <;> omega]
    exact rit_ok c m h1 h2 q w
  · rw [show itOk c m = false by unfold itOk; rcases (show c = 15 ∨ c = 14 by omega) with rfl | rfl <;> simp [nbeq, nble, *] <;> omega]
    exact rit_no c m hc h1 h2 (by omega) w
end Go.Proofs.YtplhblhopaheeaaGreatDoor
