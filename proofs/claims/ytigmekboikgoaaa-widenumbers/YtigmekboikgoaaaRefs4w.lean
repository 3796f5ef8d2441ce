/- The contracts of the reference's Expand and Compress (package sourdineref1), walked; and that what Compress finds is the least. -/
import Derived.Test.YtigmekboikgoaaaRefs3
namespace Go.Proofs.Ytigmekboikgoaaa
open Go.ChangeShapes Go.WideShapes Go.ChangeAt Go.RowKit
set_option linter.unusedVariables false
set_option linter.unusedSimpArgs false

/-! ### plain -/
theorem or_spread1 (x : Int) (x0 : 0 ≤ x) (x1 : x < 256) : bits .or .u32 x (x * 65536) = spreadS x 1 := by
  rw [u32_or _ _ x0 (by omega) (by omega) (by omega), Nat.or_comm, nat_join 16 _ _ (by omega) (by omega)]
  simp only [spreadS, if_true]
  omega
theorem or_spread2 (x : Int) (x0 : 0 ≤ x) (x1 : x < 256) : bits .or .u32 (x * 256) (x * 16777216) = spreadS x 2 := by
  rw [u32_or _ _ (by omega) (by omega) (by omega) (by omega), Nat.or_comm, nat_join 24 _ _ (by omega) (by omega)]
  simp only [spreadS, if_true, show ¬((2 : Int) = 1) by decide, if_false]
  omega
theorem or_spread3a (x : Int) (x0 : 0 ≤ x) (x1 : x < 256) : bits .or .u32 x (x * 256) = x * 257 := by
  rw [u32_or _ _ x0 (by omega) (by omega) (by omega), Nat.or_comm, nat_join 8 _ _ (by omega) (by omega)]
  omega
theorem or_spread3b (x : Int) (x0 : 0 ≤ x) (x1 : x < 256) : bits .or .u32 (x * 257) (x * 65536) = x * 65793 := by
  rw [u32_or _ _ (by omega) (by omega) (by omega) (by omega), Nat.or_comm, nat_join 16 _ _ (by omega) (by omega)]
  omega
theorem or_spread3c (x : Int) (x0 : 0 ≤ x) (x1 : x < 256) : bits .or .u32 (x * 65793) (x * 16777216) = spreadS x 3 := by
  rw [u32_or _ _ (by omega) (by omega) (by omega) (by omega), Nat.or_comm, nat_join 24 _ _ (by omega) (by omega)]
  simp only [spreadS, if_true, show ¬((3 : Int) = 1) by decide, show ¬((3 : Int) = 2) by decide, if_false]
  omega

theorem expandS_carry (i : Int) (c d : Bool) : (expandS i c).1 = (expandS i d).1 ∧ (expandS i c).2.2 = (expandS i d).2.2 := by
  unfold expandS
  split <;> exact ⟨rfl, rfl⟩
theorem expandS_mod (i : Int) (c : Bool) : expandS i c = expandS (i % 4096) c := by
  unfold expandS
  have e1 : i % 4096 / 1024 % 4 = i / 1024 % 4 := by omega
  have e2 : i % 4096 % 256 = i % 256 := by omega
  have e3 : i % 4096 / 256 % 4 = i / 256 % 4 := by omega
  have e4 : i % 4096 % 128 = i % 128 := by omega
  have e5 : i % 4096 / 128 % 32 = i / 128 % 32 := by omega
  rw [e1, e2, e3, e4, e5]
theorem expandS_bounds (i : Int) (c : Bool) : 0 ≤ (expandS i c).1 ∧ (expandS i c).1 < 4294967296 := by
  unfold expandS
  split
  · simp only [spreadS]
    repeat (first | split | omega)
  · exact rorS_bounds _ _ (by omega) (by omega) (by omega)

def chk (i : Nat) : Bool := !(expandS i false).2.2 || ((compressS (expandS i false).1).2 && decide ((compressS (expandS i false).1).1 ≤ i))
theorem chk_all : (List.range 64).all (fun a => (List.range 64).all fun b => chk (64 * a + b)) = true := by decide +kernel
theorem chk_at (i : Nat) (h : i < 4096) : chk i = true := by
  have h1 := List.all_eq_true.1 chk_all (i / 64) (by simp; omega)
  have h2 := List.all_eq_true.1 h1 (i % 64) (by simp; omega)
  rw [show 64 * (i / 64) + i % 64 = i by omega] at h2
  exact h2
theorem compress_least (i : Nat) (h : i < 4096) (ok : (expandS i false).2.2 = true) :
    (compressS (expandS i false).1).2 = true ∧ (compressS (expandS i false).1).1 ≤ i := by
  have := chk_at i h
  unfold chk at this
  rw [ok] at this
  simpa using this

def hit (v : Int) (i : Nat) : Bool := (expandS i false).2.2 && ((expandS i false).1 == v)
theorem hit_found (v : Int) (k : Nat) (v0 : 0 ≤ v) (v1 : v < 4294967296) (hk : k < 4096) (hn : ∀ j, j < k → hit v j = false) (hh : hit v k = true) : compressS v = ((k : Int), true) := by
  unfold hit at hh
  rw [Bool.and_eq_true, beq_iff_eq] at hh
  have hl := compress_least k hk hh.1
  rw [hh.2] at hl
  have hb := compress_back v false v0 v1 hl.1
  obtain ⟨m, hm⟩ := Int.eq_ofNat_of_zero_le hb.1
  have e : (compressS v).1 = (k : Int) := by
    apply Classical.byContradiction
    intro hne
    have hlt : m < k := by omega
    have := hn m hlt
    unfold hit at this
    rw [hm] at hb
    rw [hb.2.2.1, hb.2.2.2] at this
    simp at this
  exact Prod.ext e hl.1
theorem hit_none (v : Int) (v0 : 0 ≤ v) (v1 : v < 4294967296) (hn : ∀ j, j < 4096 → hit v j = false) : compressS v = (0, false) := by
  have h2 : (compressS v).2 = false := by
    apply Classical.byContradiction
    intro h
    rw [Bool.not_eq_false] at h
    have hb := compress_back v false v0 v1 h
    obtain ⟨m, hm⟩ := Int.eq_ofNat_of_zero_le hb.1
    have := hn m (by omega)
    unfold hit at this
    rw [hm] at hb
    rw [hb.2.2.1, hb.2.2.2] at this
    simp at this
  revert h2
  unfold compressS turnedS
  split
  · intro h; cases h
  split
  · intro h; cases h
  split
  · intro h; cases h
  split
  · intro h; cases h
  split
  · intro _; rfl
  · intro h; cases h

theorem grown_trans {a b c : World} (h : Grown a b) (h2 : Grown b c) : Grown a c :=
  ⟨World.keptBut_trans h.1 h2.1, fun x => (h2.2.1 x).trans (h.2.1 x), Nat.le_trans h.2.2 h2.2.2⟩

/-! ### Expand -/
theorem below_alloc (w : World) (o : Obj) : Below w.heap.size w (w.alloc o) := Below.alloc (Below.refl _ _) (Nat.le_refl _) o

theorem rExpand_0 (i : Int) (c : Bool) (i0 : 0 ≤ i) (i1 : i < 4294967296) (h : i / 1024 % 4 = 0) (hk : i / 256 % 4 = 0) (w : World) :
    Calls Try.prog 18 #[.int .u32 i, .bool c] w fun e w' => e = .returned (.tuple #[.int .u32 (spreadS (i % 256) 0), .bool c, .bool (true)]) ∧ Grown w w' ∧ Below w.heap.size w w' := by
  have m1 := mask8 i i0 i1
  have m2 := mask2 (i / 1024) (by omega) (by omega)
  have m4 := mask2 (i / 256) (by omega) (by omega)
  rw [h] at m2
  rw [hk] at m4
  have x0 : 0 ≤ i % 256 := by omega
  have x1 : i % 256 < 256 := by omega
  have o1 := or_spread1 (i % 256) x0 x1
  have o2 := or_spread2 (i % 256) x0 x1
  have o3 := or_spread3a (i % 256) x0 x1
  have o4 := or_spread3b (i % 256) x0 x1
  have o5 := or_spread3c (i % 256) x0 x1
  have z : i % 256 = 0 → spreadS (i % 256) 0 = 0 := by intro hx; rw [hx]; rfl
  rw [show spreadS (i % 256) 0 = i % 256 from rfl]
  clear z h hk
  generalize spreadS (i % 256) 1 = q1 at *
  generalize spreadS (i % 256) 2 = q2 at *
  generalize spreadS (i % 256) 3 = q3 at *
  generalize i % 256 = x at *
  go_enter Try.func18, Try.ntmps18
  go_wp2
  go_ret3
  exact ⟨rfl, Grown.alloc (Grown.refl _) _ _, below_alloc _ _⟩

theorem rExpand_1 (i : Int) (c : Bool) (i0 : 0 ≤ i) (i1 : i < 4294967296) (h : i / 1024 % 4 = 0) (hk : i / 256 % 4 = 1) (w : World) :
    Calls Try.prog 18 #[.int .u32 i, .bool c] w fun e w' => e = .returned (.tuple #[.int .u32 (spreadS (i % 256) 1), .bool c, .bool (i % 256 != 0)]) ∧ Grown w w' ∧ Below w.heap.size w w' := by
  have m1 := mask8 i i0 i1
  have m2 := mask2 (i / 1024) (by omega) (by omega)
  have m4 := mask2 (i / 256) (by omega) (by omega)
  rw [h] at m2
  rw [hk] at m4
  have x0 : 0 ≤ i % 256 := by omega
  have x1 : i % 256 < 256 := by omega
  have o1 := or_spread1 (i % 256) x0 x1
  have o2 := or_spread2 (i % 256) x0 x1
  have o3 := or_spread3a (i % 256) x0 x1
  have o4 := or_spread3b (i % 256) x0 x1
  have o5 := or_spread3c (i % 256) x0 x1
  have z : i % 256 = 0 → spreadS (i % 256) 1 = 0 := by intro hx; rw [hx]; rfl
  clear h hk
  by_cases hx : i % 256 = 0
  · have hx' : (i % 256 == 0) = true := by simpa using hx
    have e : (i % 256 != 0) = false := by simpa using hx
    rw [z hx, e]
    clear z e hx
    generalize spreadS (i % 256) 1 = q1 at *
    generalize spreadS (i % 256) 2 = q2 at *
    generalize spreadS (i % 256) 3 = q3 at *
    generalize i % 256 = x at *
    go_enter Try.func18, Try.ntmps18
    go_wp2
    go_ret3
    exact ⟨rfl, Grown.alloc (Grown.refl _) _ _, below_alloc _ _⟩
  · have hx' : (i % 256 == 0) = false := by simpa using hx
    have e : (i % 256 != 0) = true := by simpa using hx
    rw [e]
    clear z e hx
    generalize spreadS (i % 256) 1 = q1 at *
    generalize spreadS (i % 256) 2 = q2 at *
    generalize spreadS (i % 256) 3 = q3 at *
    generalize i % 256 = x at *
    go_enter Try.func18, Try.ntmps18
    go_wp2
    go_ret3
    exact ⟨rfl, Grown.alloc (Grown.refl _) _ _, below_alloc _ _⟩

theorem rExpand_2 (i : Int) (c : Bool) (i0 : 0 ≤ i) (i1 : i < 4294967296) (h : i / 1024 % 4 = 0) (hk : i / 256 % 4 = 2) (w : World) :
    Calls Try.prog 18 #[.int .u32 i, .bool c] w fun e w' => e = .returned (.tuple #[.int .u32 (spreadS (i % 256) 2), .bool c, .bool (i % 256 != 0)]) ∧ Grown w w' ∧ Below w.heap.size w w' := by
  have m1 := mask8 i i0 i1
  have m2 := mask2 (i / 1024) (by omega) (by omega)
  have m4 := mask2 (i / 256) (by omega) (by omega)
  rw [h] at m2
  rw [hk] at m4
  have x0 : 0 ≤ i % 256 := by omega
  have x1 : i % 256 < 256 := by omega
  have o1 := or_spread1 (i % 256) x0 x1
  have o2 := or_spread2 (i % 256) x0 x1
  have o3 := or_spread3a (i % 256) x0 x1
  have o4 := or_spread3b (i % 256) x0 x1
  have o5 := or_spread3c (i % 256) x0 x1
  have z : i % 256 = 0 → spreadS (i % 256) 2 = 0 := by intro hx; rw [hx]; rfl
  clear h hk
  by_cases hx : i % 256 = 0
  · have hx' : (i % 256 == 0) = true := by simpa using hx
    have e : (i % 256 != 0) = false := by simpa using hx
    rw [z hx, e]
    clear z e hx
    generalize spreadS (i % 256) 1 = q1 at *
    generalize spreadS (i % 256) 2 = q2 at *
    generalize spreadS (i % 256) 3 = q3 at *
    generalize i % 256 = x at *
    go_enter Try.func18, Try.ntmps18
    go_wp2
    go_ret3
    exact ⟨rfl, Grown.alloc (Grown.refl _) _ _, below_alloc _ _⟩
  · have hx' : (i % 256 == 0) = false := by simpa using hx
    have e : (i % 256 != 0) = true := by simpa using hx
    rw [e]
    clear z e hx
    generalize spreadS (i % 256) 1 = q1 at *
    generalize spreadS (i % 256) 2 = q2 at *
    generalize spreadS (i % 256) 3 = q3 at *
    generalize i % 256 = x at *
    go_enter Try.func18, Try.ntmps18
    go_wp2
    go_ret3
    exact ⟨rfl, Grown.alloc (Grown.refl _) _ _, below_alloc _ _⟩

theorem rExpand_3 (i : Int) (c : Bool) (i0 : 0 ≤ i) (i1 : i < 4294967296) (h : i / 1024 % 4 = 0) (hk : i / 256 % 4 = 3) (w : World) :
    Calls Try.prog 18 #[.int .u32 i, .bool c] w fun e w' => e = .returned (.tuple #[.int .u32 (spreadS (i % 256) 3), .bool c, .bool (i % 256 != 0)]) ∧ Grown w w' ∧ Below w.heap.size w w' := by
  have m1 := mask8 i i0 i1
  have m2 := mask2 (i / 1024) (by omega) (by omega)
  have m4 := mask2 (i / 256) (by omega) (by omega)
  rw [h] at m2
  rw [hk] at m4
  have x0 : 0 ≤ i % 256 := by omega
  have x1 : i % 256 < 256 := by omega
  have o1 := or_spread1 (i % 256) x0 x1
  have o2 := or_spread2 (i % 256) x0 x1
  have o3 := or_spread3a (i % 256) x0 x1
  have o4 := or_spread3b (i % 256) x0 x1
  have o5 := or_spread3c (i % 256) x0 x1
  have z : i % 256 = 0 → spreadS (i % 256) 3 = 0 := by intro hx; rw [hx]; rfl
  clear h hk
  by_cases hx : i % 256 = 0
  · have hx' : (i % 256 == 0) = true := by simpa using hx
    have e : (i % 256 != 0) = false := by simpa using hx
    rw [z hx, e]
    clear z e hx
    generalize spreadS (i % 256) 1 = q1 at *
    generalize spreadS (i % 256) 2 = q2 at *
    generalize spreadS (i % 256) 3 = q3 at *
    generalize i % 256 = x at *
    go_enter Try.func18, Try.ntmps18
    go_wp2
    go_ret3
    exact ⟨rfl, Grown.alloc (Grown.refl _) _ _, below_alloc _ _⟩
  · have hx' : (i % 256 == 0) = false := by simpa using hx
    have e : (i % 256 != 0) = true := by simpa using hx
    rw [e]
    clear z e hx
    generalize spreadS (i % 256) 1 = q1 at *
    generalize spreadS (i % 256) 2 = q2 at *
    generalize spreadS (i % 256) 3 = q3 at *
    generalize i % 256 = x at *
    go_enter Try.func18, Try.ntmps18
    go_wp2
    go_ret3
    exact ⟨rfl, Grown.alloc (Grown.refl _) _ _, below_alloc _ _⟩

theorem rExpand_t (i : Int) (c : Bool) (i0 : 0 ≤ i) (i1 : i < 4294967296) (h : ¬ i / 1024 % 4 = 0) (w : World) :
    Calls Try.prog 18 #[.int .u32 i, .bool c] w fun e w' => e = .returned (.tuple #[.int .u32 (rorS (i % 128 + 128) (i / 128 % 32).toNat), .bool (rorS (i % 128 + 128) (i / 128 % 32).toNat / 2147483648 == 1), .bool true]) ∧ w' = w := by
  have m1 := mask8 i i0 i1
  have m2 := mask2 (i / 1024) (by omega) (by omega)
  have m3 := mask5 (i / 128) (by omega) (by omega)
  have m7 := mask7 i i0 i1
  have m5 := or128 (i % 128) (by omega) (by omega)
  rw [show i % 128 % 128 = i % 128 by omega] at m5
  have t : (i / 1024 % 4 == 0) = false := by simpa using h
  have hc := rShift_c (i % 128 + 128) 4 (i / 128 % 32) c (by omega) (by omega) (by omega) (by omega) w
  obtain ⟨j, hj⟩ : ∃ j, (i / 128 % 32).toNat = j + 1 := ⟨(i / 128 % 32).toNat - 1, by omega⟩
  have e := ror_iter (i % 128 + 128) c (by omega) (by omega) j
  rw [shiftS_of _ 4 _ c (by decide) (by decide), countS_mid _ (by omega) (by omega), hj, e, ← hj, show (i / 128 % 32).toNat % 32 = (i / 128 % 32).toNat by omega] at hc
  generalize rorS (i % 128 + 128) (i / 128 % 32).toNat = r at *
  clear h hj e
  have f0 : 0 ≤ i / 128 % 32 := by omega
  have f1 : i / 128 % 32 < 32 := by omega
  generalize i / 128 % 32 = f at *
  go_enter Try.func18, Try.ntmps18
  go_wp2_with (go_at_call 42; refine hc.mono ?_; rintro e w' ⟨rfl, rfl⟩)
  go_ret3
  exact ⟨rfl, rfl⟩

theorem rExpand_c (i : Int) (c : Bool) (i0 : 0 ≤ i) (i1 : i < 4294967296) (w : World) :
    Calls Try.prog 18 #[.int .u32 i, .bool c] w fun e w' => e = .returned (.tuple #[.int .u32 (expandS i c).1, .bool (expandS i c).2.1, .bool (expandS i c).2.2]) ∧ Grown w w' ∧ Below w.heap.size w w' := by
  by_cases h : i / 1024 % 4 = 0
  · have e : expandS i c = (spreadS (i % 256) (i / 256 % 4), c, (i / 256 % 4 == 0) || (i % 256 != 0)) := by unfold expandS; rw [if_pos h]
    rw [e]
    rcases (show i / 256 % 4 = 0 ∨ i / 256 % 4 = 1 ∨ i / 256 % 4 = 2 ∨ i / 256 % 4 = 3 by omega) with hk | hk | hk | hk
    · rw [hk]; exact rExpand_0 i c i0 i1 h hk w
    · rw [hk]; exact rExpand_1 i c i0 i1 h hk w
    · rw [hk]; exact rExpand_2 i c i0 i1 h hk w
    · rw [hk]; exact rExpand_3 i c i0 i1 h hk w
  · have e : expandS i c = (rorS (i % 128 + 128) (i / 128 % 32).toNat, rorS (i % 128 + 128) (i / 128 % 32).toNat / 2147483648 == 1, true) := by unfold expandS; rw [if_neg h]
    rw [e]
    refine (rExpand_t i c i0 i1 h w).mono ?_
    rintro r w' ⟨hr, rfl⟩
    exact ⟨hr, Grown.refl _, Below.refl _ _⟩

/-! ### Compress: the loop -/
set_option maxHeartbeats 1000000 in
theorem rCompress_c (v : Int) (v0 : 0 ≤ v) (v1 : v < 4294967296) (w : World) :
    Calls Try.prog 11 #[.int .u32 v] w fun e w' => e = .returned (.tuple #[.int .u32 (compressS v).1, .bool (compressS v).2]) ∧ Grown w w' ∧ Below w.heap.size w w' := by
  go_enter Try.func11, Try.ntmps11
  go_wp2
  go_loopw [4] (fun i wr => ∃ k : Nat, k ≤ 4096 ∧ i = .int .u32 k ∧ Hid ((∀ j, j < k → hit v j = false) ∧ Grown w wr ∧ Below w.heap.size w wr)) (fun i _ => 4096 - (intOf i).toNat)
  case atStart => exact ⟨0, by decide, rfl, fun j hj => absurd hj (Nat.not_lt_zero j), Grown.refl _, Below.refl _ _⟩
  case round =>
    obtain ⟨k, hk, rfl, HR⟩ := hrel
    by_cases hk4 : k < 4096
    · have hc := rExpand_c k false (by omega) (by omega) wr
      have hlt : (k : Int) < 4096 := by omega
      have HH : Hid (hit v k = ((expandS k false).2.2 && ((expandS k false).1 == v))) := rfl
      generalize expandS k false = p at *
      obtain ⟨X, c1, ok⟩ := p
      by_cases hh : hit v k = true
      · have HF : Hid _ := hit_found v k v0 v1 hk4 HR.out.1 hh
        have t := HH.out
        rw [hh, eq_comm, Bool.and_eq_true] at t
        obtain ⟨t1, t2⟩ := t
        simp only at t1 t2
        subst t1
        clear hh HH
        go_wp2_with fail
        refine hc.mono ?_
        rintro e w' ⟨rfl, HG⟩
        have HG : Hid _ := HG
        go_wp2
        go_ret2
        rw [HF.out]
        exact ⟨rfl, grown_trans HR.out.2.1 HG.out.1, Below.trans HR.out.2.2 (Below.mono HG.out.2 HR.out.2.2.size)⟩
      · rw [Bool.not_eq_true] at hh
        have HN : Hid (∀ j, j < k + 1 → hit v j = false) := by
          intro j hj
          by_cases hjk : j = k
          · subst hjk; exact hh
          · exact HR.out.1 j (by omega)
        have t := HH.out
        rw [hh, eq_comm, Bool.and_eq_false_iff] at t
        simp only at t
        clear hh HH
        cases ok
        · clear t
          go_wp2_with fail
          refine hc.mono ?_
          rintro e w' ⟨rfl, HG⟩
          have HG : Hid _ := HG
          go_wp2
          refine ⟨⟨k + 1, by omega, by simp, HN.out, grown_trans HR.out.2.1 HG.out.1, Below.trans HR.out.2.2 (Below.mono HG.out.2 HR.out.2.2.size)⟩, ?_⟩
          simp only [intOf]
          omega
        · have t2 : (X == v) = false := by simpa using t
          clear t
          go_wp2_with fail
          refine hc.mono ?_
          rintro e w' ⟨rfl, HG⟩
          have HG : Hid _ := HG
          go_wp2
          refine ⟨⟨k + 1, by omega, by simp, HN.out, grown_trans HR.out.2.1 HG.out.1, Below.trans HR.out.2.2 (Below.mono HG.out.2 HR.out.2.2.size)⟩, ?_⟩
          simp only [intOf]
          omega
    · have k4 : k = 4096 := by omega
      subst k4
      have HF : Hid _ := hit_none v v0 v1 HR.out.1
      go_wp2
      go_ret2
      rw [HF.out]
      exact ⟨rfl, HR.out.2.1, HR.out.2.2⟩
end Go.Proofs.Ytigmekboikgoaaa
