/- Stage 9: the document's Reads and Writes -/
import Derived.Test.YtplhblhopaheeaaGreatDoorIe2
import Derived.Test.YtplhblhopaheeaaGreatDoorIe3a
import Derived.Test.YtplhblhopaheeaaGreatDoorIe3b
import Derived.Test.YtplhblhopaheeaaGreatDoorIe3c
import Derived.Test.YtplhblhopaheeaaGreatDoorIe3d
import Derived.Test.YtplhblhopaheeaaGreatDoorIe3e
import Derived.Test.YtplhblhopaheeaaGreatDoorIe4a
import Derived.Test.YtplhblhopaheeaaGreatDoorIe4b
import Derived.Test.YtplhblhopaheeaaGreatDoorIe4c
import Derived.Test.YtplhblhopaheeaaGreatDoorIe5
import Derived.Test.YtplhblhopaheeaaGreatDoorYc
import Derived.Test.YtplhblhopaheeaaGreatDoorYf
namespace Go.Proofs.YtplhblhopaheeaaGreatDoor
open Go.ChangeShapes Go.WideShapes Go.ChangeAt Go.RowKit
set_option linter.unusedVariables false
set_option linter.unusedSimpArgs false

theorem bor (x y : Bool) (p : Nat) : (bif (x || y) then p else 0) = (bif x then p else 0) ||| (bif y then p else 0) := by cases x <;> cases y <;> simp
theorem maskOf_or (pd pn pm pa l T G : Nat) : maskOf pd pn pm pa l (T ||| G) = maskOf pd pn pm pa l T ||| maskOf pd pn pm pa l G := by
  unfold maskOf
  simp only [Nat.testBit_or, bor]
  ac_rfl
theorem bif_lt (x : Bool) {p : Nat} (h : p < 65536) : (bif x then p else 0) < 65536 := by
  cases x
  · exact (by decide : 0 < 65536)
  · exact h
theorem maskOf_lt (d n m a l W : Nat) (hd : d < 16) (hn : n < 16) (hm : m < 16) (ha : a < 16) (hl : l < 65536) : maskOf (2 ^ d) (2 ^ n) (2 ^ m) (2 ^ a) l W < 65536 :=
  or_lt (or_lt (or_lt (or_lt (or_lt (or_lt (or_lt (bif_lt _ (w2 d hd).2) (bif_lt _ (w2 n hn).2)) (bif_lt _ (w2 m hm).2)) (bif_lt _ (w2 a ha).2)) (bif_lt _ hl)) (bif_lt _ (by decide))) (bif_lt _ (by decide))) (bif_lt _ (by decide))
theorem memB (b : Bool) (x d : Int) : x ∈ (bif b then [d] else []) ↔ b = true ∧ x = d := by cases b <;> simp
theorem memL (W l k : Nat) (x : Int) : x ∈ listL W l k ↔ W.testBit 4 = true ∧ ∃ r : Nat, r < k ∧ l.testBit r = true ∧ x = (r : Int) := by
  unfold listL
  cases h : W.testBit 4
  · simp
  · simp only [cond_true, List.mem_map, List.mem_filter, List.mem_range, true_and]
    constructor
    · rintro ⟨r, ⟨h1, h2⟩, rfl⟩
      exact ⟨r, h1, h2, rfl⟩
    · rintro ⟨r, h1, h2, rfl⟩
      exact ⟨r, ⟨h1, h2⟩, rfl⟩
theorem tbB (b : Bool) (d r : Nat) : (bif b then 2 ^ d else 0).testBit r = true ↔ b = true ∧ (r : Int) = (d : Int) := by
  cases b
  · simp
  · simp only [cond_true, Nat.testBit_two_pow, decide_eq_true_eq, true_and]
    omega
theorem tbL (b : Bool) (l r : Nat) : (bif b then l else 0).testBit r = true ↔ b = true ∧ l.testBit r = true := by cases b <;> simp
theorem mask_mem (d n m a l W r : Nat) (hr : r < 16) : (maskOf (2 ^ d) (2 ^ n) (2 ^ m) (2 ^ a) l W).testBit r = true ↔ (r : Int) ∈ regsL d n m a l W := by
  have E0 := tbB (W.testBit 0) d r
  have E1 := tbB (W.testBit 1) n r
  have E2 := tbB (W.testBit 2) m r
  have E3 := tbB (W.testBit 3) a r
  have E4 := tbL (W.testBit 4) l r
  have e0 : (bif W.testBit 5 then 1 else 0).testBit r = true ↔ W.testBit 5 = true ∧ (r : Int) = 0 := tbB (W.testBit 5) 0 r
  have e14 : (bif W.testBit 6 then 16384 else 0).testBit r = true ↔ W.testBit 6 = true ∧ (r : Int) = 14 := tbB (W.testBit 6) 14 r
  have e15 : (bif W.testBit 7 then 32768 else 0).testBit r = true ↔ W.testBit 7 = true ∧ (r : Int) = 15 := tbB (W.testBit 7) 15 r
  have eL : (r : Int) ∈ listL W l 16 ↔ W.testBit 4 = true ∧ l.testBit r = true := by
    rw [memL]
    constructor
    · rintro ⟨h1, q, h2, h3, h4⟩
      have : r = q := by omega
      subst this
      exact ⟨h1, h3⟩
    · rintro ⟨h1, h2⟩
      exact ⟨h1, r, hr, h2, rfl⟩
  unfold maskOf
  simp only [regsL, fourL, restL, List.mem_append, memB, eL, Nat.testBit_or, Bool.or_eq_true, E0, E1, E2, E3, E4, e0, e14, e15]
  simp only [or_assoc]
theorem maskL_rising (M : Nat) (pc : Bool) (k : Nat) : (maskL M pc k).Pairwise (· < ·) := by
  unfold maskL
  rw [List.pairwise_map]
  exact (List.Pairwise.filter _ List.pairwise_lt_range).imp fun h => by omega
theorem mask_reads (d n m a l W : Nat) : maskL (maskOf (2 ^ d) (2 ^ n) (2 ^ m) (2 ^ a) l W) false 16 = riseL 14 (regsL d n m a l W) := by
  refine rising_unique (maskL_rising _ _ _) (riseL_rising _ _) fun x => ?_
  rw [maskL_mem, riseL_mem]
  constructor
  · rintro ⟨r, h1, h2, h3, rfl⟩
    refine ⟨(mask_mem d n m a l W r h1).1 h2, by omega, ?_⟩
    rcases h3 with h3 | h3
    · omega
    · cases h3
  · rintro ⟨h1, h2, h3⟩
    obtain ⟨r, rfl⟩ : ∃ r : Nat, x = (r : Int) := ⟨x.toNat, by omega⟩
    exact ⟨r, by omega, (mask_mem d n m a l W r (by omega)).2 h1, .inl (by omega), rfl⟩
theorem mask_writes (d n m a l W : Nat) (br : Bool) (h : br = true ∨ (15 : Int) ∉ regsL d n m a l W) : maskL (maskOf (2 ^ d) (2 ^ n) (2 ^ m) (2 ^ a) l W) true 16 = riseL (bif br then 15 else 14) (regsL d n m a l W) := by
  refine rising_unique (maskL_rising _ _ _) (riseL_rising _ _) fun x => ?_
  rw [maskL_mem, riseL_mem]
  constructor
  · rintro ⟨r, h1, h2, _, rfl⟩
    have hx := (mask_mem d n m a l W r h1).1 h2
    refine ⟨hx, by omega, ?_⟩
    cases br
    · rcases h with h | h
      · cases h
      · have : r ≠ 15 := fun e => h (by subst e; exact hx)
        simp only [cond_false]
        omega
    · simp only [cond_true]
      omega
  · rintro ⟨h1, h2, h3⟩
    have h4 : x ≤ 15 := by cases br <;> simp at h3 <;> omega
    obtain ⟨r, rfl⟩ : ∃ r : Nat, x = (r : Int) := ⟨x.toNat, by omega⟩
    exact ⟨r, by omega, (mask_mem d n m a l W r (by omega)).2 h1, .inr rfl, rfl⟩
theorem rtaken_c (i : IV) (d n m a l : Nat) (hd : i.d = d) (hn : i.n = n) (hm : i.m = m) (ha : i.a = a) (hl : i.list = l) (hd2 : d < 16) (hn2 : n < 16) (hm2 : m < 16) (ha2 : a < 16) (l2 : l < 65536) (w : World) : Calls Tryz.prog 79 #[i.val] w fun e w' => e = .returned (.int .i64 ((maskOf (2 ^ d) (2 ^ n) (2 ^ m) (2 ^ a) l (takesN i) : Nat) : Int)) ∧ Below w.heap.size w w' := by
  have CC : Hid (∀ w1, Calls Tryz.prog 51 #[.int .i64 i.op] w1 fun e w' => e = .returned (.int .i64 (classS i.op)) ∧ w' = w1) := fun w1 => rclassZ_c i.op w1
  have CS : Hid (∀ w1, Calls Tryz.prog 48 #[i.val] w1 fun e w' => e = .returned (.bool (storesI i.op)) ∧ Below w1.heap.size w1 w') := fun w1 => rstores_c i w1
  rcases (show i.op ≤ 20 ∨ (21 ≤ i.op ∧ i.op ≤ 29) ∨ (30 ≤ i.op ∧ i.op ≤ 43) ∨ (44 ≤ i.op ∧ i.op ≤ 53) ∨ 54 ≤ i.op by omega) with h | h | h | h | h
  · exact rtaken_a i d n m a l hd hn hm ha hl hd2 hn2 hm2 ha2 l2 w CC CS h
  · exact rtaken_b i d n m a l hd hn hm ha hl hd2 hn2 hm2 ha2 l2 w CC CS h
  · exact rtaken_c1 i d n m a l hd hn hm ha hl hd2 hn2 hm2 ha2 l2 w CC CS h
  · exact rtaken_d i d n m a l hd hn hm ha hl hd2 hn2 hm2 ha2 l2 w CC CS h
  · exact rtaken_e i d n m a l hd hn hm ha hl hd2 hn2 hm2 ha2 l2 w CC CS h
theorem rwritten_c (i : IV) (d n m a l : Nat) (hd : i.d = d) (hn : i.n = n) (hm : i.m = m) (ha : i.a = a) (hl : i.list = l) (hd2 : d < 16) (hn2 : n < 16) (hm2 : m < 16) (ha2 : a < 16) (l2 : l < 65536) (w : World) : Calls Tryz.prog 80 #[i.val] w fun e w' => e = .returned (.int .i64 ((maskOf (2 ^ d) (2 ^ n) (2 ^ m) (2 ^ a) l (givesN i) : Nat) : Int)) ∧ Below w.heap.size w w' := by
  have CC : Hid (∀ w1, Calls Tryz.prog 51 #[.int .i64 i.op] w1 fun e w' => e = .returned (.int .i64 (classS i.op)) ∧ w' = w1) := fun w1 => rclassZ_c i.op w1
  have CS : Hid (∀ w1, Calls Tryz.prog 48 #[i.val] w1 fun e w' => e = .returned (.bool (storesI i.op)) ∧ Below w1.heap.size w1 w') := fun w1 => rstores_c i w1
  have CB : Hid (∀ w1, Calls Tryz.prog 46 #[i.val] w1 fun e w' => e = .returned (.bool (branchesI i l)) ∧ Below w1.heap.size w1 w') := fun w1 => rbranches_c i l hl l2 w1
  have CF : Hid (∀ w1, Calls Tryz.prog 53 #[.int .i64 i.op] w1 fun e w' => e = .returned (.bool (comparesS i.op)) ∧ w' = w1) := fun w1 => rfour_c i.op w1
  rcases (show i.op ≤ 42 ∨ (43 ≤ i.op ∧ i.op ≤ 53) ∨ 54 ≤ i.op by omega) with h | h | h
  · exact rwritten_a i d n m a l hd hn hm ha hl hd2 hn2 hm2 ha2 l2 w CC CS CB CF h
  · exact rwritten_b i d n m a l hd hn hm ha hl hd2 hn2 hm2 ha2 l2 w CC CS CB CF h
  · exact rwritten_c1 i d n m a l hd hn hm ha hl hd2 hn2 hm2 ha2 l2 w CC CS CB CF h
set_option maxHeartbeats 8000000 in
set_option maxRecDepth 100000 in
theorem rreads_c (i : IV) (d n m a l : Nat) (hd : i.d = d) (hn : i.n = n) (hm : i.m = m) (ha : i.a = a) (hl : i.list = l) (hd2 : d < 16) (hn2 : n < 16) (hm2 : m < 16) (ha2 : a < 16) (l2 : l < 65536) (w : World) : Calls Tryz.prog 41 #[i.val] w fun e w' => ∃ u, e = .returned u ∧ IL w' u (readsI i l) ∧ Below w.heap.size w w' := by
  have HRD : Hid (maskL (maskOf (2 ^ d) (2 ^ n) (2 ^ m) (2 ^ a) l (readsW i)) false 16 = readsI i l) := by
    show _ = _
    rw [mask_reads, readsI, hd, hn, hm, ha]
  have CT : Hid (∀ w1, Calls Tryz.prog 79 #[i.val] w1 fun e w' => e = .returned (.int .i64 ((maskOf (2 ^ d) (2 ^ n) (2 ^ m) (2 ^ a) l (takesN i) : Nat) : Int)) ∧ Below w1.heap.size w1 w') := fun w1 => rtaken_c i d n m a l hd hn hm ha hl hd2 hn2 hm2 ha2 l2 w1
  have CG : Hid (∀ w1, Calls Tryz.prog 80 #[i.val] w1 fun e w' => e = .returned (.int .i64 ((maskOf (2 ^ d) (2 ^ n) (2 ^ m) (2 ^ a) l (givesN i) : Nat) : Int)) ∧ Below w1.heap.size w1 w') := fun w1 => rwritten_c i d n m a l hd hn hm ha hl hd2 hn2 hm2 ha2 l2 w1
  have hT := maskOf_lt d n m a l (takesN i) hd2 hn2 hm2 ha2 l2
  have hG := maskOf_lt d n m a l (givesN i) hd2 hn2 hm2 ha2 l2
  have hR := maskOf_lt d n m a l (readsW i) hd2 hn2 hm2 ha2 l2
  have HOR : Hid (bits .or .i64 ((maskOf (2 ^ d) (2 ^ n) (2 ^ m) (2 ^ a) l (takesN i) : Nat) : Int) ((maskOf (2 ^ d) (2 ^ n) (2 ^ m) (2 ^ a) l (givesN i) : Nat) : Int) = ((maskOf (2 ^ d) (2 ^ n) (2 ^ m) (2 ^ a) l (takesN i) ||| maskOf (2 ^ d) (2 ^ n) (2 ^ m) (2 ^ a) l (givesN i) : Nat) : Int)) := orC hT hG
  have HRW : Hid (maskOf (2 ^ d) (2 ^ n) (2 ^ m) (2 ^ a) l (readsW i) = bif i.cond == 14 then maskOf (2 ^ d) (2 ^ n) (2 ^ m) (2 ^ a) l (takesN i) else maskOf (2 ^ d) (2 ^ n) (2 ^ m) (2 ^ a) l (takesN i) ||| maskOf (2 ^ d) (2 ^ n) (2 ^ m) (2 ^ a) l (givesN i)) := by
    show _ = _
    unfold readsW
    cases i.cond == 14
    · simp only [cond_false, maskOf_or]
    · rfl
  generalize maskOf (2 ^ d) (2 ^ n) (2 ^ m) (2 ^ a) l (takesN i) = MT at *
  generalize maskOf (2 ^ d) (2 ^ n) (2 ^ m) (2 ^ a) l (givesN i) = MG at *
  generalize maskOf (2 ^ d) (2 ^ n) (2 ^ m) (2 ^ a) l (readsW i) = MR at *
  have CR : Hid (∀ w1, Calls Tryz.prog 81 #[.int .i64 (MR : Int), .bool false] w1 fun e w' => ∃ u, e = .returned u ∧ IL w' u (readsI i l) ∧ Below w1.heap.size w1 w') := fun w1 => by
    have h := rlist_c MR false hR w1
    rw [HRD.out] at h
    exact h
  clear HRD hT hG hR hd hn hm ha hl hd2 hn2 hm2 ha2 l2
  obtain ⟨cd, hcd⟩ : ∃ u, i.cond = u := ⟨_, rfl⟩
  have HC : Hid ((Cel.iv i).cells[3]? = some (.int .i64 cd)) := by
    show some (Value.int .i64 i.cond) = _
    rw [hcd]
  rw [hcd] at HRW
  generalize readsI i l = RS at *
  clear hcd
  cases e1 : (cd == 14)
  · rw [e1] at HRW
    have hM : MR = MT ||| MG := HRW.out
    rw [← hM] at HOR
    clear HRW hM
    have n1 : (cd != 14) = true := by simp only [bne, e1, Bool.not_false]
    go_enter Tryz.func41, Tryz.ntmps41
    have S := SH.start w
    go_wp2_with (first
      | ((with_reducible refine wpl_isDst 1 ?_); refine SH.box (L := []) S rfl 28 _ rfl (Cel.iv i) rfl ?_; clear S; intro b1 w1 S)
      | ((with_reducible refine wpl_isDst 4 ?_); refine S.ldAll 28 _ rfl b1 rfl 0 _ rfl _ Tryz.underlying28 rfl (szIV _) rfl ?_)
      | (go_at_call 79; refine (CT.out _).mono ?_; rintro e wf ⟨rfl, hbf⟩; replace S := S.below hbf; clear hbf)
      | ((with_reducible refine wpl_isDst 7 ?_); refine S.ld 3 _ rfl b1 3 rfl 0 _ rfl (.int .i64 _) HC.out _ Tryz.underlying3 rfl rfl ?_)
      | ((with_reducible refine wpl_isDst 10 ?_); refine S.ldAll 28 _ rfl b1 rfl 0 _ rfl _ Tryz.underlying28 rfl (szIV _) rfl ?_)
      | (go_at_call 80; refine (CG.out _).mono ?_; rintro e wf ⟨rfl, hbf⟩; replace S := S.below hbf; clear hbf)
      | ((with_reducible refine wpl_isDst 12 ?_); refine wpl_dst 12 rfl (.int .i64 (MR : Int)) (by go_simp; exact HOR.out) rfl ?_)
      | (go_at_call 81; refine (CR.out _).mono ?_; rintro e wf ⟨u, rfl, hil, hbf⟩; replace S := S.below hbf; have HI : Hid (IL wf u _) := hil; clear hil hbf))
    go_ret
    exact ⟨_, rfl, HI.out, S.low⟩
  · rw [e1] at HRW
    have hM : MR = MT := HRW.out
    subst hM
    clear HRW HOR
    have n1 : (cd != 14) = false := by simp only [bne, e1, Bool.not_true]
    go_enter Tryz.func41, Tryz.ntmps41
    have S := SH.start w
    go_wp2_with (first
      | ((with_reducible refine wpl_isDst 1 ?_); refine SH.box (L := []) S rfl 28 _ rfl (Cel.iv i) rfl ?_; clear S; intro b1 w1 S)
      | ((with_reducible refine wpl_isDst 4 ?_); refine S.ldAll 28 _ rfl b1 rfl 0 _ rfl _ Tryz.underlying28 rfl (szIV _) rfl ?_)
      | (go_at_call 79; refine (CT.out _).mono ?_; rintro e wf ⟨rfl, hbf⟩; replace S := S.below hbf; clear hbf)
      | ((with_reducible refine wpl_isDst 7 ?_); refine S.ld 3 _ rfl b1 3 rfl 0 _ rfl (.int .i64 _) HC.out _ Tryz.underlying3 rfl rfl ?_)
      | ((with_reducible refine wpl_isDst 10 ?_); refine S.ldAll 28 _ rfl b1 rfl 0 _ rfl _ Tryz.underlying28 rfl (szIV _) rfl ?_)
      | (go_at_call 80; refine (CG.out _).mono ?_; rintro e wf ⟨rfl, hbf⟩; replace S := S.below hbf; clear hbf)
      | (go_at_call 81; refine (CR.out _).mono ?_; rintro e wf ⟨u, rfl, hil, hbf⟩; replace S := S.below hbf; have HI : Hid (IL wf u _) := hil; clear hil hbf))
    go_ret
    exact ⟨_, rfl, HI.out, S.low⟩
set_option maxHeartbeats 8000000 in
set_option maxRecDepth 100000 in
theorem rwrites_c (i : IV) (d n m a l : Nat) (hd : i.d = d) (hn : i.n = n) (hm : i.m = m) (ha : i.a = a) (hl : i.list = l) (hd2 : d < 16) (hn2 : n < 16) (hm2 : m < 16) (ha2 : a < 16) (l2 : l < 65536) (h15 : branchesI i l = true ∨ (15 : Int) ∉ regsL d n m a l (givesN i)) (w : World) : Calls Tryz.prog 42 #[i.val] w fun e w' => ∃ u, e = .returned u ∧ IL w' u (writesI i l) ∧ Below w.heap.size w w' := by
  have HRD : Hid (maskL (maskOf (2 ^ d) (2 ^ n) (2 ^ m) (2 ^ a) l (givesN i)) true 16 = writesI i l) := by
    show _ = _
    rw [mask_writes _ _ _ _ _ _ (branchesI i l) h15, writesI, hd, hn, hm, ha]
  have CG : Hid (∀ w1, Calls Tryz.prog 80 #[i.val] w1 fun e w' => e = .returned (.int .i64 ((maskOf (2 ^ d) (2 ^ n) (2 ^ m) (2 ^ a) l (givesN i) : Nat) : Int)) ∧ Below w1.heap.size w1 w') := fun w1 => rwritten_c i d n m a l hd hn hm ha hl hd2 hn2 hm2 ha2 l2 w1
  have hG := maskOf_lt d n m a l (givesN i) hd2 hn2 hm2 ha2 l2
  generalize maskOf (2 ^ d) (2 ^ n) (2 ^ m) (2 ^ a) l (givesN i) = MG at *
  have CR : Hid (∀ w1, Calls Tryz.prog 81 #[.int .i64 (MG : Int), .bool true] w1 fun e w' => ∃ u, e = .returned u ∧ IL w' u (writesI i l) ∧ Below w1.heap.size w1 w') := fun w1 => by
    have h := rlist_c MG true hG w1
    rw [HRD.out] at h
    exact h
  clear HRD hG hd hn hm ha hl hd2 hn2 hm2 ha2 l2 h15
  generalize writesI i l = RS at *
  go_enter Tryz.func42, Tryz.ntmps42
  have S := SH.start w
  go_wp2_with (first
    | ((with_reducible refine wpl_isDst 1 ?_); refine SH.box (L := []) S rfl 28 _ rfl (Cel.iv i) rfl ?_; clear S; intro b1 w1 S)
    | ((with_reducible refine wpl_isDst 3 ?_); refine S.ldAll 28 _ rfl b1 rfl 0 _ rfl _ Tryz.underlying28 rfl (szIV _) rfl ?_)
    | (go_at_call 80; refine (CG.out _).mono ?_; rintro e wf ⟨rfl, hbf⟩; replace S := S.below hbf; clear hbf)
    | (go_at_call 81; refine (CR.out _).mono ?_; rintro e wf ⟨u, rfl, hil, hbf⟩; replace S := S.below hbf; have HI : Hid (IL wf u _) := hil; clear hil hbf))
  go_ret
  exact ⟨_, rfl, HI.out, S.low⟩
end Go.Proofs.YtplhblhopaheeaaGreatDoor
namespace Go.Proofs.YtplhblhopaheeaaGreatDoor
open Go.ChangeShapes Go.WideShapes Go.ChangeAt Go.RowKit
set_option linter.unusedVariables false
set_option linter.unusedSimpArgs false

theorem riseLen (last : Nat) (xs : List Int) : (riseL last xs).length ≤ last + 1 := by
  unfold riseL
  exact Nat.le_trans (List.length_filter_le _ _) (by simp)
set_option maxHeartbeats 8000000 in
set_option maxRecDepth 100000 in
theorem same_c (i : IV) (d n m a l : Nat) (hd : i.d = d) (hn : i.n = n) (hm : i.m = m) (ha : i.a = a) (hl : i.list = l) (hd2 : d < 16) (hn2 : n < 16) (hm2 : m < 16) (ha2 : a < 16) (l2 : l < 65536) (h43 : i.op = 43 → i.s = false) (h15 : branchesI i l = true ∨ (15 : Int) ∉ regsL d n m a l (givesN i)) (w : World) : Calls Tryz.prog 10 #[i.val] w fun e w' => e = .returned (.bool true) ∧ Below w.heap.size w w' := by
  have PR : Hid (∀ w1, Calls Tryz.prog 20 #[i.val] w1 fun e w' => ∃ u, e = .returned u ∧ IL w' u (readsI i l) ∧ Below w1.heap.size w1 w') := fun w1 => reads_c i l hl l2 w1
  have PW : Hid (∀ w1, Calls Tryz.prog 17 #[i.val] w1 fun e w' => ∃ u, e = .returned u ∧ IL w' u (writesI i l) ∧ Below w1.heap.size w1 w') := fun w1 => writes_c i l hl l2 w1
  have DR : Hid (∀ w1, Calls Tryz.prog 41 #[i.val] w1 fun e w' => ∃ u, e = .returned u ∧ IL w' u (readsI i l) ∧ Below w1.heap.size w1 w') := fun w1 => rreads_c i d n m a l hd hn hm ha hl hd2 hn2 hm2 ha2 l2 w1
  have DW : Hid (∀ w1, Calls Tryz.prog 42 #[i.val] w1 fun e w' => ∃ u, e = .returned u ∧ IL w' u (writesI i l) ∧ Below w1.heap.size w1 w') := fun w1 => rwrites_c i d n m a l hd hn hm ha hl hd2 hn2 hm2 ha2 l2 h15 w1
  have N1 : Hid ((readsI i l).length < 1000) := Nat.lt_of_le_of_lt (riseLen _ _) (by decide)
  have N2 : Hid ((writesI i l).length < 1000) := Nat.lt_of_le_of_lt (riseLen _ _) (by cases branchesI i l <;> decide)
  have PT : Hid (∀ w1, Calls Tryz.prog 19 #[i.val] w1 fun e w' => e = .returned (.int .i64 (setsI i)) ∧ Below w1.heap.size w1 w') := fun w1 => sets_c i w1
  have DT : Hid (∀ w1, Calls Tryz.prog 43 #[i.val] w1 fun e w' => e = .returned (.int .i64 (setsI i)) ∧ Below w1.heap.size w1 w') := fun w1 => rsets_c i h43 w1
  have PU : Hid (∀ w1, Calls Tryz.prog 25 #[i.val] w1 fun e w' => e = .returned (.bool (usesI i)) ∧ Below w1.heap.size w1 w') := fun w1 => (usesI_c i w1).mono fun e w' h => ⟨h.1, by rw [h.2]; exact low_one _ _⟩
  have DU : Hid (∀ w1, Calls Tryz.prog 44 #[i.val] w1 fun e w' => e = .returned (.bool (usesI i)) ∧ Below w1.heap.size w1 w') := fun w1 => ruses_c i w1
  have PZ : Hid (∀ w1, Calls Tryz.prog 26 #[i.val] w1 fun e w' => e = .returned (.int .u32 (if i.wide then 4 else 2)) ∧ Below w1.heap.size w1 w') := fun w1 => (size_c i w1).mono fun e w' h => ⟨h.1, by rw [h.2]; exact low_one _ _⟩
  have DZ : Hid (∀ w1, Calls Tryz.prog 45 #[i.val] w1 fun e w' => e = .returned (.int .u32 (if i.wide then 4 else 2)) ∧ Below w1.heap.size w1 w') := fun w1 => rsize_c i w1
  have PB : Hid (∀ w1, Calls Tryz.prog 27 #[i.val] w1 fun e w' => e = .returned (.bool (branchesI i l)) ∧ Below w1.heap.size w1 w') := fun w1 => branches_c i l hl l2 w1
  have DB : Hid (∀ w1, Calls Tryz.prog 46 #[i.val] w1 fun e w' => e = .returned (.bool (branchesI i l)) ∧ Below w1.heap.size w1 w') := fun w1 => rbranches_c i l hl l2 w1
  have PL : Hid (∀ w1, Calls Tryz.prog 28 #[i.val] w1 fun e w' => e = .returned (.bool (loadsI i.op)) ∧ Below w1.heap.size w1 w') := fun w1 => (loadsI_c i w1).mono fun e w' h => ⟨h.1, by rw [h.2]; exact low_one _ _⟩
  have DL : Hid (∀ w1, Calls Tryz.prog 47 #[i.val] w1 fun e w' => e = .returned (.bool (loadsI i.op)) ∧ Below w1.heap.size w1 w') := fun w1 => rloads_c i w1
  have PQ : Hid (∀ w1, Calls Tryz.prog 29 #[i.val] w1 fun e w' => e = .returned (.bool (storesI i.op)) ∧ Below w1.heap.size w1 w') := fun w1 => (storesI_c i w1).mono fun e w' h => ⟨h.1, by rw [h.2]; exact low_one _ _⟩
  have DQ : Hid (∀ w1, Calls Tryz.prog 48 #[i.val] w1 fun e w' => e = .returned (.bool (storesI i.op)) ∧ Below w1.heap.size w1 w') := fun w1 => rstores_c i w1
  clear hd hn hm ha hl hd2 hn2 hm2 ha2 l2 h43 h15
  generalize readsI i l = rs at *
  generalize writesI i l = ws at *
  generalize setsI i = st at *
  generalize usesI i = us at *
  generalize (if i.wide then 4 else 2 : Int) = sz at *
  generalize branchesI i l = br at *
  generalize loadsI i.op = ld at *
  generalize storesI i.op = so at *
  go_enter Tryz.func10, Tryz.ntmps10
  have S := SH.start w
  go_upto_region 1 with ((with_reducible refine wpl_isDst 1 ?_); refine SH.box (L := []) S rfl 28 _ rfl (Cel.iv i) rfl ?_; clear S; intro b1 w1 S)
  refine Upto.start (S := fun w' => SH noZ w w' [(b1, Cel.iv i)]) 54 (by kernel_rfl) ?_
  replace S := S.drew
  refine Upto.take (i := 0) (oi := { dst := some 3, op := Op.load 28 (Operand.tmp 1), type := 28, pos := "law.go:20", after := #[], guard := none }) (v := _) rfl (by kernel_rfl) (by kernel_rfl) (by kernel_rfl) (by kernel_rfl) (fun _ _ _ h => h) (y_loadAll (by rfl) _ _ rfl _ rfl 0 _ rfl _ Tryz.underlying28 rfl (szIV _)) (by exact S) ?_
  simp only [Act.put, List.setIfInBounds_toArray, List.set_cons_zero, List.set_cons_succ]
  refine Upto.take (i := 2) (oi := { dst := some 5, op := Op.load 28 (Operand.tmp 1), type := 28, pos := "law.go:20", after := #[], guard := none }) (v := _) rfl (by kernel_rfl) (by kernel_rfl) (by kernel_rfl) (by kernel_rfl) (fun _ _ _ h => h) (y_loadAll (by rfl) _ _ rfl _ rfl 0 _ rfl _ Tryz.underlying28 rfl (szIV _)) (by exact S) ?_
  simp only [Act.put, List.setIfInBounds_toArray, List.set_cons_zero, List.set_cons_succ]
  refine Upto.ready (rs := [1]) (by kernel_rfl) (by simp) ?_
  refine Nexts.cons rfl (by decide) (fun K hK => ?_) Nexts.nil
  go_simp
  go_wp2_with (go_at_call 20; refine (PR.out _).mono ?_; rintro e wf ⟨u, rfl, hil, hbf⟩; replace S := S.below hbf; have I1 : Hid (IL wf u rs) := hil; clear hil hbf)
  refine hK.out _ _ (by exact S) ?_
  clear hK K
  refine Upto.ready (rs := [3]) (by kernel_rfl) (by simp) ?_
  refine Nexts.cons rfl (by decide) (fun K hK => ?_) Nexts.nil
  go_simp
  go_wp2_with (go_at_call 41; refine (DR.out _).mono ?_; rintro e wf ⟨v, rfl, hil, hbf⟩; replace S := S.below hbf; have I2 : Hid (IL wf u rs) := IL.below I1.out hbf; have I3 : Hid (IL wf v rs) := hil; clear hil hbf)
  refine hK.out _ _ (by exact S) ?_
  clear hK K
  refine Upto.ready (rs := [4]) (by kernel_rfl) (by simp) ?_
  refine Nexts.cons rfl (by decide) (fun K hK => ?_) Nexts.nil
  go_simp
  go_wp2_with (go_at_call 24; refine (ints_c rs _ _ _ I2.out I3.out N1.out).mono ?_; rintro e wf ⟨rfl, hbf⟩; replace S := S.below hbf; clear hbf)
  refine hK.out _ _ (by exact S) ?_
  clear hK K
  refine Upto.take (i := 5) (oi := { dst := some 8, op := Op.move (Operand.tmp 7), type := 4, pos := "law.go:20", after := #[{ on := 4, ground := Ground.data }, { on := 4, ground := Ground.chain }], guard := none }) (v := ?_) rfl (by kernel_rfl) (by kernel_rfl) (by kernel_rfl) (by kernel_rfl) (fun _ _ _ h => h) (Or.inl ⟨by rfl, ?_⟩) (by exact S) ?_
  rotate_left 1
  · intro w hSw
    clear hSw
    go_simp
    try with_reducible rfl
  simp only [Act.put, List.setIfInBounds_toArray, List.set_cons_zero, List.set_cons_succ]
  refine Upto.take (i := 6) (oi := { dst := some 9, op := Op.load 28 (Operand.tmp 1), type := 28, pos := "law.go:20", after := #[{ on := 5, ground := Ground.guard }], guard := some (5, true) }) (v := _) rfl (by kernel_rfl) (by kernel_rfl) (by kernel_rfl) (by kernel_rfl) (fun _ _ _ h => h) (y_loadAll (by rfl) _ _ rfl _ rfl 0 _ rfl _ Tryz.underlying28 rfl (szIV _)) (by exact S) ?_
  simp only [Act.put, List.setIfInBounds_toArray, List.set_cons_zero, List.set_cons_succ]
  refine Upto.take (i := 8) (oi := { dst := some 11, op := Op.load 28 (Operand.tmp 1), type := 28, pos := "law.go:20", after := #[{ on := 5, ground := Ground.guard }], guard := some (5, true) }) (v := _) rfl (by kernel_rfl) (by kernel_rfl) (by kernel_rfl) (by kernel_rfl) (fun _ _ _ h => h) (y_loadAll (by rfl) _ _ rfl _ rfl 0 _ rfl _ Tryz.underlying28 rfl (szIV _)) (by exact S) ?_
  simp only [Act.put, List.setIfInBounds_toArray, List.set_cons_zero, List.set_cons_succ]
  refine Upto.ready (rs := [7]) (by kernel_rfl) (by simp) ?_
  refine Nexts.cons rfl (by decide) (fun K hK => ?_) Nexts.nil
  go_simp
  go_wp2_with (go_at_call 17; refine (PW.out _).mono ?_; rintro e wf ⟨u2, rfl, hil, hbf⟩; replace S := S.below hbf; have I4 : Hid (IL wf u2 ws) := hil; clear hil hbf)
  refine hK.out _ _ (by exact S) ?_
  clear hK K
  refine Upto.ready (rs := [9]) (by kernel_rfl) (by simp) ?_
  refine Nexts.cons rfl (by decide) (fun K hK => ?_) Nexts.nil
  go_simp
  go_wp2_with (go_at_call 42; refine (DW.out _).mono ?_; rintro e wf ⟨v2, rfl, hil, hbf⟩; replace S := S.below hbf; have I5 : Hid (IL wf u2 ws) := IL.below I4.out hbf; have I6 : Hid (IL wf v2 ws) := hil; clear hil hbf)
  refine hK.out _ _ (by exact S) ?_
  clear hK K
  refine Upto.ready (rs := [10]) (by kernel_rfl) (by simp) ?_
  refine Nexts.cons rfl (by decide) (fun K hK => ?_) Nexts.nil
  go_simp
  go_wp2_with (go_at_call 24; refine (ints_c ws _ _ _ I5.out I6.out N2.out).mono ?_; rintro e wf ⟨rfl, hbf⟩; replace S := S.below hbf; clear hbf)
  refine hK.out _ _ (by exact S) ?_
  clear hK K
  refine Upto.take (i := 11) (oi := { dst := some 14, op := Op.pick (Operand.tmp 8) (Operand.tmp 13) (Operand.const (Value.bool false)), type := 4, pos := "law.go:20", after := #[{ on := 5, ground := Ground.data }, { on := 10, ground := Ground.data }], guard := none }) (v := ?_) rfl (by kernel_rfl) (by kernel_rfl) (by kernel_rfl) (by kernel_rfl) (fun _ _ _ h => h) (Or.inl ⟨by rfl, ?_⟩) (by exact S) ?_
  rotate_left 1
  · intro w hSw
    clear hSw
    go_simp
    try with_reducible rfl
  simp only [Act.put, List.setIfInBounds_toArray, List.set_cons_zero, List.set_cons_succ]
  refine Upto.take (i := 12) (oi := { dst := some 15, op := Op.move (Operand.tmp 14), type := 4, pos := "law.go:20", after := #[{ on := 11, ground := Ground.data }, { on := 10, ground := Ground.chain }], guard := none }) (v := ?_) rfl (by kernel_rfl) (by kernel_rfl) (by kernel_rfl) (by kernel_rfl) (fun _ _ _ h => h) (Or.inl ⟨by rfl, ?_⟩) (by exact S) ?_
  rotate_left 1
  · intro w hSw
    clear hSw
    go_simp
    try with_reducible rfl
  simp only [Act.put, List.setIfInBounds_toArray, List.set_cons_zero, List.set_cons_succ]
  refine Upto.take (i := 13) (oi := { dst := some 16, op := Op.load 28 (Operand.tmp 1), type := 28, pos := "law.go:20", after := #[{ on := 12, ground := Ground.guard }], guard := some (12, true) }) (v := _) rfl (by kernel_rfl) (by kernel_rfl) (by kernel_rfl) (by kernel_rfl) (fun _ _ _ h => h) (y_loadAll (by rfl) _ _ rfl _ rfl 0 _ rfl _ Tryz.underlying28 rfl (szIV _)) (by exact S) ?_
  simp only [Act.put, List.setIfInBounds_toArray, List.set_cons_zero, List.set_cons_succ]
  refine Upto.take (i := 15) (oi := { dst := some 18, op := Op.load 28 (Operand.tmp 1), type := 28, pos := "law.go:20", after := #[{ on := 12, ground := Ground.guard }], guard := some (12, true) }) (v := _) rfl (by kernel_rfl) (by kernel_rfl) (by kernel_rfl) (by kernel_rfl) (fun _ _ _ h => h) (y_loadAll (by rfl) _ _ rfl _ rfl 0 _ rfl _ Tryz.underlying28 rfl (szIV _)) (by exact S) ?_
  simp only [Act.put, List.setIfInBounds_toArray, List.set_cons_zero, List.set_cons_succ]
  refine Upto.ready (rs := [14]) (by kernel_rfl) (by simp) ?_
  refine Nexts.cons rfl (by decide) (fun K hK => ?_) Nexts.nil
  go_simp
  go_wp2_with (go_at_call 19; refine (PT.out _).mono ?_; rintro e wf ⟨rfl, hbf⟩; replace S := S.below hbf; clear hbf)
  refine hK.out _ _ (by exact S) ?_
  clear hK K
  refine Upto.ready (rs := [16]) (by kernel_rfl) (by simp) ?_
  refine Nexts.cons rfl (by decide) (fun K hK => ?_) Nexts.nil
  go_simp
  go_wp2_with (go_at_call 43; refine (DT.out _).mono ?_; rintro e wf ⟨rfl, hbf⟩; replace S := S.below hbf; clear hbf)
  refine hK.out _ _ (by exact S) ?_
  clear hK K
  refine Upto.take (i := 17) (oi := { dst := some 20, op := Op.binOp BinOp.eql 3 (Operand.tmp 17) (Operand.tmp 19) 3, type := 4, pos := "law.go:20", after := #[{ on := 14, ground := Ground.data }, { on := 16, ground := Ground.data }, { on := 12, ground := Ground.guard }], guard := some (12, true) }) (v := ?_) rfl (by kernel_rfl) (by kernel_rfl) (by kernel_rfl) (by kernel_rfl) (fun _ _ _ h => h) (Or.inl ⟨by rfl, ?_⟩) (by exact S) ?_
  rotate_left 1
  · intro w hSw
    clear hSw
    go_simp
    try with_reducible rfl
  simp only [Act.put, List.setIfInBounds_toArray, List.set_cons_zero, List.set_cons_succ]
  refine Upto.take (i := 18) (oi := { dst := some 21, op := Op.pick (Operand.tmp 15) (Operand.tmp 20) (Operand.const (Value.bool false)), type := 4, pos := "law.go:20", after := #[{ on := 12, ground := Ground.data }, { on := 17, ground := Ground.data }], guard := none }) (v := ?_) rfl (by kernel_rfl) (by kernel_rfl) (by kernel_rfl) (by kernel_rfl) (fun _ _ _ h => h) (Or.inl ⟨by rfl, ?_⟩) (by exact S) ?_
  rotate_left 1
  · intro w hSw
    clear hSw
    go_simp
    try with_reducible rfl
  simp only [Act.put, List.setIfInBounds_toArray, List.set_cons_zero, List.set_cons_succ]
  refine Upto.take (i := 19) (oi := { dst := some 22, op := Op.move (Operand.tmp 21), type := 4, pos := "law.go:20", after := #[{ on := 18, ground := Ground.data }, { on := 16, ground := Ground.chain }], guard := none }) (v := ?_) rfl (by kernel_rfl) (by kernel_rfl) (by kernel_rfl) (by kernel_rfl) (fun _ _ _ h => h) (Or.inl ⟨by rfl, ?_⟩) (by exact S) ?_
  rotate_left 1
  · intro w hSw
    clear hSw
    go_simp
    try with_reducible rfl
  simp only [Act.put, List.setIfInBounds_toArray, List.set_cons_zero, List.set_cons_succ]
  refine Upto.take (i := 20) (oi := { dst := some 23, op := Op.load 28 (Operand.tmp 1), type := 28, pos := "law.go:20", after := #[{ on := 19, ground := Ground.guard }], guard := some (19, true) }) (v := _) rfl (by kernel_rfl) (by kernel_rfl) (by kernel_rfl) (by kernel_rfl) (fun _ _ _ h => h) (y_loadAll (by rfl) _ _ rfl _ rfl 0 _ rfl _ Tryz.underlying28 rfl (szIV _)) (by exact S) ?_
  simp only [Act.put, List.setIfInBounds_toArray, List.set_cons_zero, List.set_cons_succ]
  refine Upto.take (i := 22) (oi := { dst := some 25, op := Op.load 28 (Operand.tmp 1), type := 28, pos := "law.go:20", after := #[{ on := 19, ground := Ground.guard }], guard := some (19, true) }) (v := _) rfl (by kernel_rfl) (by kernel_rfl) (by kernel_rfl) (by kernel_rfl) (fun _ _ _ h => h) (y_loadAll (by rfl) _ _ rfl _ rfl 0 _ rfl _ Tryz.underlying28 rfl (szIV _)) (by exact S) ?_
  simp only [Act.put, List.setIfInBounds_toArray, List.set_cons_zero, List.set_cons_succ]
  refine Upto.ready (rs := [21]) (by kernel_rfl) (by simp) ?_
  refine Nexts.cons rfl (by decide) (fun K hK => ?_) Nexts.nil
  go_simp
  go_wp2_with (go_at_call 25; refine (PU.out _).mono ?_; rintro e wf ⟨rfl, hbf⟩; replace S := S.below hbf; clear hbf)
  refine hK.out _ _ (by exact S) ?_
  clear hK K
  refine Upto.ready (rs := [23]) (by kernel_rfl) (by simp) ?_
  refine Nexts.cons rfl (by decide) (fun K hK => ?_) Nexts.nil
  go_simp
  go_wp2_with (go_at_call 44; refine (DU.out _).mono ?_; rintro e wf ⟨rfl, hbf⟩; replace S := S.below hbf; clear hbf)
  refine hK.out _ _ (by exact S) ?_
  clear hK K
  refine Upto.take (i := 24) (oi := { dst := some 27, op := Op.binOp BinOp.eql 4 (Operand.tmp 24) (Operand.tmp 26) 4, type := 4, pos := "law.go:20", after := #[{ on := 21, ground := Ground.data }, { on := 23, ground := Ground.data }, { on := 19, ground := Ground.guard }], guard := some (19, true) }) (v := ?_) rfl (by kernel_rfl) (by kernel_rfl) (by kernel_rfl) (by kernel_rfl) (fun _ _ _ h => h) (Or.inl ⟨by rfl, ?_⟩) (by exact S) ?_
  rotate_left 1
  · intro w hSw
    clear hSw
    go_simp
    try with_reducible rfl
  simp only [Act.put, List.setIfInBounds_toArray, List.set_cons_zero, List.set_cons_succ]
  refine Upto.take (i := 25) (oi := { dst := some 28, op := Op.pick (Operand.tmp 22) (Operand.tmp 27) (Operand.const (Value.bool false)), type := 4, pos := "law.go:20", after := #[{ on := 19, ground := Ground.data }, { on := 24, ground := Ground.data }], guard := none }) (v := ?_) rfl (by kernel_rfl) (by kernel_rfl) (by kernel_rfl) (by kernel_rfl) (fun _ _ _ h => h) (Or.inl ⟨by rfl, ?_⟩) (by exact S) ?_
  rotate_left 1
  · intro w hSw
    clear hSw
    go_simp
    try with_reducible rfl
  simp only [Act.put, List.setIfInBounds_toArray, List.set_cons_zero, List.set_cons_succ]
  refine Upto.take (i := 26) (oi := { dst := some 29, op := Op.move (Operand.tmp 28), type := 4, pos := "law.go:20", after := #[{ on := 25, ground := Ground.data }, { on := 23, ground := Ground.chain }], guard := none }) (v := ?_) rfl (by kernel_rfl) (by kernel_rfl) (by kernel_rfl) (by kernel_rfl) (fun _ _ _ h => h) (Or.inl ⟨by rfl, ?_⟩) (by exact S) ?_
  rotate_left 1
  · intro w hSw
    clear hSw
    go_simp
    try with_reducible rfl
  simp only [Act.put, List.setIfInBounds_toArray, List.set_cons_zero, List.set_cons_succ]
  refine Upto.take (i := 27) (oi := { dst := some 30, op := Op.load 28 (Operand.tmp 1), type := 28, pos := "law.go:20", after := #[{ on := 26, ground := Ground.guard }], guard := some (26, true) }) (v := _) rfl (by kernel_rfl) (by kernel_rfl) (by kernel_rfl) (by kernel_rfl) (fun _ _ _ h => h) (y_loadAll (by rfl) _ _ rfl _ rfl 0 _ rfl _ Tryz.underlying28 rfl (szIV _)) (by exact S) ?_
  simp only [Act.put, List.setIfInBounds_toArray, List.set_cons_zero, List.set_cons_succ]
  refine Upto.take (i := 29) (oi := { dst := some 32, op := Op.load 28 (Operand.tmp 1), type := 28, pos := "law.go:20", after := #[{ on := 26, ground := Ground.guard }], guard := some (26, true) }) (v := _) rfl (by kernel_rfl) (by kernel_rfl) (by kernel_rfl) (by kernel_rfl) (fun _ _ _ h => h) (y_loadAll (by rfl) _ _ rfl _ rfl 0 _ rfl _ Tryz.underlying28 rfl (szIV _)) (by exact S) ?_
  simp only [Act.put, List.setIfInBounds_toArray, List.set_cons_zero, List.set_cons_succ]
  refine Upto.ready (rs := [28]) (by kernel_rfl) (by simp) ?_
  refine Nexts.cons rfl (by decide) (fun K hK => ?_) Nexts.nil
  go_simp
  go_wp2_with (go_at_call 26; refine (PZ.out _).mono ?_; rintro e wf ⟨rfl, hbf⟩; replace S := S.below hbf; clear hbf)
  refine hK.out _ _ (by exact S) ?_
  clear hK K
  refine Upto.ready (rs := [30]) (by kernel_rfl) (by simp) ?_
  refine Nexts.cons rfl (by decide) (fun K hK => ?_) Nexts.nil
  go_simp
  go_wp2_with (go_at_call 45; refine (DZ.out _).mono ?_; rintro e wf ⟨rfl, hbf⟩; replace S := S.below hbf; clear hbf)
  refine hK.out _ _ (by exact S) ?_
  clear hK K
  refine Upto.take (i := 31) (oi := { dst := some 34, op := Op.binOp BinOp.eql 26 (Operand.tmp 31) (Operand.tmp 33) 26, type := 4, pos := "law.go:20", after := #[{ on := 28, ground := Ground.data }, { on := 30, ground := Ground.data }, { on := 26, ground := Ground.guard }], guard := some (26, true) }) (v := ?_) rfl (by kernel_rfl) (by kernel_rfl) (by kernel_rfl) (by kernel_rfl) (fun _ _ _ h => h) (Or.inl ⟨by rfl, ?_⟩) (by exact S) ?_
  rotate_left 1
  · intro w hSw
    clear hSw
    go_simp
    try with_reducible rfl
  simp only [Act.put, List.setIfInBounds_toArray, List.set_cons_zero, List.set_cons_succ]
  refine Upto.take (i := 32) (oi := { dst := some 35, op := Op.pick (Operand.tmp 29) (Operand.tmp 34) (Operand.const (Value.bool false)), type := 4, pos := "law.go:20", after := #[{ on := 26, ground := Ground.data }, { on := 31, ground := Ground.data }], guard := none }) (v := ?_) rfl (by kernel_rfl) (by kernel_rfl) (by kernel_rfl) (by kernel_rfl) (fun _ _ _ h => h) (Or.inl ⟨by rfl, ?_⟩) (by exact S) ?_
  rotate_left 1
  · intro w hSw
    clear hSw
    go_simp
    try with_reducible rfl
  simp only [Act.put, List.setIfInBounds_toArray, List.set_cons_zero, List.set_cons_succ]
  refine Upto.take (i := 33) (oi := { dst := some 36, op := Op.move (Operand.tmp 35), type := 4, pos := "law.go:20", after := #[{ on := 32, ground := Ground.data }, { on := 30, ground := Ground.chain }], guard := none }) (v := ?_) rfl (by kernel_rfl) (by kernel_rfl) (by kernel_rfl) (by kernel_rfl) (fun _ _ _ h => h) (Or.inl ⟨by rfl, ?_⟩) (by exact S) ?_
  rotate_left 1
  · intro w hSw
    clear hSw
    go_simp
    try with_reducible rfl
  simp only [Act.put, List.setIfInBounds_toArray, List.set_cons_zero, List.set_cons_succ]
  refine Upto.take (i := 34) (oi := { dst := some 37, op := Op.load 28 (Operand.tmp 1), type := 28, pos := "law.go:20", after := #[{ on := 33, ground := Ground.guard }], guard := some (33, true) }) (v := _) rfl (by kernel_rfl) (by kernel_rfl) (by kernel_rfl) (by kernel_rfl) (fun _ _ _ h => h) (y_loadAll (by rfl) _ _ rfl _ rfl 0 _ rfl _ Tryz.underlying28 rfl (szIV _)) (by exact S) ?_
  simp only [Act.put, List.setIfInBounds_toArray, List.set_cons_zero, List.set_cons_succ]
  refine Upto.take (i := 36) (oi := { dst := some 39, op := Op.load 28 (Operand.tmp 1), type := 28, pos := "law.go:20", after := #[{ on := 33, ground := Ground.guard }], guard := some (33, true) }) (v := _) rfl (by kernel_rfl) (by kernel_rfl) (by kernel_rfl) (by kernel_rfl) (fun _ _ _ h => h) (y_loadAll (by rfl) _ _ rfl _ rfl 0 _ rfl _ Tryz.underlying28 rfl (szIV _)) (by exact S) ?_
  simp only [Act.put, List.setIfInBounds_toArray, List.set_cons_zero, List.set_cons_succ]
  refine Upto.ready (rs := [35]) (by kernel_rfl) (by simp) ?_
  refine Nexts.cons rfl (by decide) (fun K hK => ?_) Nexts.nil
  go_simp
  go_wp2_with (go_at_call 27; refine (PB.out _).mono ?_; rintro e wf ⟨rfl, hbf⟩; replace S := S.below hbf; clear hbf)
  refine hK.out _ _ (by exact S) ?_
  clear hK K
  refine Upto.ready (rs := [37]) (by kernel_rfl) (by simp) ?_
  refine Nexts.cons rfl (by decide) (fun K hK => ?_) Nexts.nil
  go_simp
  go_wp2_with (go_at_call 46; refine (DB.out _).mono ?_; rintro e wf ⟨rfl, hbf⟩; replace S := S.below hbf; clear hbf)
  refine hK.out _ _ (by exact S) ?_
  clear hK K
  refine Upto.take (i := 38) (oi := { dst := some 41, op := Op.binOp BinOp.eql 4 (Operand.tmp 38) (Operand.tmp 40) 4, type := 4, pos := "law.go:20", after := #[{ on := 35, ground := Ground.data }, { on := 37, ground := Ground.data }, { on := 33, ground := Ground.guard }], guard := some (33, true) }) (v := ?_) rfl (by kernel_rfl) (by kernel_rfl) (by kernel_rfl) (by kernel_rfl) (fun _ _ _ h => h) (Or.inl ⟨by rfl, ?_⟩) (by exact S) ?_
  rotate_left 1
  · intro w hSw
    clear hSw
    go_simp
    try with_reducible rfl
  simp only [Act.put, List.setIfInBounds_toArray, List.set_cons_zero, List.set_cons_succ]
  refine Upto.take (i := 39) (oi := { dst := some 42, op := Op.pick (Operand.tmp 36) (Operand.tmp 41) (Operand.const (Value.bool false)), type := 4, pos := "law.go:20", after := #[{ on := 33, ground := Ground.data }, { on := 38, ground := Ground.data }], guard := none }) (v := ?_) rfl (by kernel_rfl) (by kernel_rfl) (by kernel_rfl) (by kernel_rfl) (fun _ _ _ h => h) (Or.inl ⟨by rfl, ?_⟩) (by exact S) ?_
  rotate_left 1
  · intro w hSw
    clear hSw
    go_simp
    try with_reducible rfl
  simp only [Act.put, List.setIfInBounds_toArray, List.set_cons_zero, List.set_cons_succ]
  refine Upto.take (i := 40) (oi := { dst := some 43, op := Op.move (Operand.tmp 42), type := 4, pos := "law.go:20", after := #[{ on := 39, ground := Ground.data }, { on := 37, ground := Ground.chain }], guard := none }) (v := ?_) rfl (by kernel_rfl) (by kernel_rfl) (by kernel_rfl) (by kernel_rfl) (fun _ _ _ h => h) (Or.inl ⟨by rfl, ?_⟩) (by exact S) ?_
  rotate_left 1
  · intro w hSw
    clear hSw
    go_simp
    try with_reducible rfl
  simp only [Act.put, List.setIfInBounds_toArray, List.set_cons_zero, List.set_cons_succ]
  refine Upto.take (i := 41) (oi := { dst := some 44, op := Op.load 28 (Operand.tmp 1), type := 28, pos := "law.go:20", after := #[{ on := 40, ground := Ground.guard }], guard := some (40, true) }) (v := _) rfl (by kernel_rfl) (by kernel_rfl) (by kernel_rfl) (by kernel_rfl) (fun _ _ _ h => h) (y_loadAll (by rfl) _ _ rfl _ rfl 0 _ rfl _ Tryz.underlying28 rfl (szIV _)) (by exact S) ?_
  simp only [Act.put, List.setIfInBounds_toArray, List.set_cons_zero, List.set_cons_succ]
  refine Upto.take (i := 43) (oi := { dst := some 46, op := Op.load 28 (Operand.tmp 1), type := 28, pos := "law.go:20", after := #[{ on := 40, ground := Ground.guard }], guard := some (40, true) }) (v := _) rfl (by kernel_rfl) (by kernel_rfl) (by kernel_rfl) (by kernel_rfl) (fun _ _ _ h => h) (y_loadAll (by rfl) _ _ rfl _ rfl 0 _ rfl _ Tryz.underlying28 rfl (szIV _)) (by exact S) ?_
  simp only [Act.put, List.setIfInBounds_toArray, List.set_cons_zero, List.set_cons_succ]
  refine Upto.ready (rs := [42]) (by kernel_rfl) (by simp) ?_
  refine Nexts.cons rfl (by decide) (fun K hK => ?_) Nexts.nil
  go_simp
  go_wp2_with (go_at_call 28; refine (PL.out _).mono ?_; rintro e wf ⟨rfl, hbf⟩; replace S := S.below hbf; clear hbf)
  refine hK.out _ _ (by exact S) ?_
  clear hK K
  refine Upto.ready (rs := [44]) (by kernel_rfl) (by simp) ?_
  refine Nexts.cons rfl (by decide) (fun K hK => ?_) Nexts.nil
  go_simp
  go_wp2_with (go_at_call 47; refine (DL.out _).mono ?_; rintro e wf ⟨rfl, hbf⟩; replace S := S.below hbf; clear hbf)
  refine hK.out _ _ (by exact S) ?_
  clear hK K
  refine Upto.take (i := 45) (oi := { dst := some 48, op := Op.binOp BinOp.eql 4 (Operand.tmp 45) (Operand.tmp 47) 4, type := 4, pos := "law.go:20", after := #[{ on := 42, ground := Ground.data }, { on := 44, ground := Ground.data }, { on := 40, ground := Ground.guard }], guard := some (40, true) }) (v := ?_) rfl (by kernel_rfl) (by kernel_rfl) (by kernel_rfl) (by kernel_rfl) (fun _ _ _ h => h) (Or.inl ⟨by rfl, ?_⟩) (by exact S) ?_
  rotate_left 1
  · intro w hSw
    clear hSw
    go_simp
    try with_reducible rfl
  simp only [Act.put, List.setIfInBounds_toArray, List.set_cons_zero, List.set_cons_succ]
  refine Upto.take (i := 46) (oi := { dst := some 49, op := Op.pick (Operand.tmp 43) (Operand.tmp 48) (Operand.const (Value.bool false)), type := 4, pos := "law.go:20", after := #[{ on := 40, ground := Ground.data }, { on := 45, ground := Ground.data }], guard := none }) (v := ?_) rfl (by kernel_rfl) (by kernel_rfl) (by kernel_rfl) (by kernel_rfl) (fun _ _ _ h => h) (Or.inl ⟨by rfl, ?_⟩) (by exact S) ?_
  rotate_left 1
  · intro w hSw
    clear hSw
    go_simp
    try with_reducible rfl
  simp only [Act.put, List.setIfInBounds_toArray, List.set_cons_zero, List.set_cons_succ]
  refine Upto.take (i := 47) (oi := { dst := some 50, op := Op.move (Operand.tmp 49), type := 4, pos := "law.go:20", after := #[{ on := 46, ground := Ground.data }, { on := 44, ground := Ground.chain }], guard := none }) (v := ?_) rfl (by kernel_rfl) (by kernel_rfl) (by kernel_rfl) (by kernel_rfl) (fun _ _ _ h => h) (Or.inl ⟨by rfl, ?_⟩) (by exact S) ?_
  rotate_left 1
  · intro w hSw
    clear hSw
    go_simp
    try with_reducible rfl
  simp only [Act.put, List.setIfInBounds_toArray, List.set_cons_zero, List.set_cons_succ]
  refine Upto.take (i := 48) (oi := { dst := some 51, op := Op.load 28 (Operand.tmp 1), type := 28, pos := "law.go:20", after := #[{ on := 47, ground := Ground.guard }], guard := some (47, true) }) (v := _) rfl (by kernel_rfl) (by kernel_rfl) (by kernel_rfl) (by kernel_rfl) (fun _ _ _ h => h) (y_loadAll (by rfl) _ _ rfl _ rfl 0 _ rfl _ Tryz.underlying28 rfl (szIV _)) (by exact S) ?_
  simp only [Act.put, List.setIfInBounds_toArray, List.set_cons_zero, List.set_cons_succ]
  refine Upto.take (i := 50) (oi := { dst := some 53, op := Op.load 28 (Operand.tmp 1), type := 28, pos := "law.go:20", after := #[{ on := 47, ground := Ground.guard }], guard := some (47, true) }) (v := _) rfl (by kernel_rfl) (by kernel_rfl) (by kernel_rfl) (by kernel_rfl) (fun _ _ _ h => h) (y_loadAll (by rfl) _ _ rfl _ rfl 0 _ rfl _ Tryz.underlying28 rfl (szIV _)) (by exact S) ?_
  simp only [Act.put, List.setIfInBounds_toArray, List.set_cons_zero, List.set_cons_succ]
  refine Upto.ready (rs := [49]) (by kernel_rfl) (by simp) ?_
  refine Nexts.cons rfl (by decide) (fun K hK => ?_) Nexts.nil
  go_simp
  go_wp2_with (go_at_call 29; refine (PQ.out _).mono ?_; rintro e wf ⟨rfl, hbf⟩; replace S := S.below hbf; clear hbf)
  refine hK.out _ _ (by exact S) ?_
  clear hK K
  refine Upto.ready (rs := [51]) (by kernel_rfl) (by simp) ?_
  refine Nexts.cons rfl (by decide) (fun K hK => ?_) Nexts.nil
  go_simp
  go_wp2_with (go_at_call 48; refine (DQ.out _).mono ?_; rintro e wf ⟨rfl, hbf⟩; replace S := S.below hbf; clear hbf)
  refine hK.out _ _ (by exact S) ?_
  clear hK K
  refine Upto.take (i := 52) (oi := { dst := some 55, op := Op.binOp BinOp.eql 4 (Operand.tmp 52) (Operand.tmp 54) 4, type := 4, pos := "law.go:20", after := #[{ on := 49, ground := Ground.data }, { on := 51, ground := Ground.data }, { on := 47, ground := Ground.guard }], guard := some (47, true) }) (v := ?_) rfl (by kernel_rfl) (by kernel_rfl) (by kernel_rfl) (by kernel_rfl) (fun _ _ _ h => h) (Or.inl ⟨by rfl, ?_⟩) (by exact S) ?_
  rotate_left 1
  · intro w hSw
    clear hSw
    go_simp
    try with_reducible rfl
  simp only [Act.put, List.setIfInBounds_toArray, List.set_cons_zero, List.set_cons_succ]
  refine Upto.take (i := 53) (oi := { dst := some 56, op := Op.pick (Operand.tmp 50) (Operand.tmp 55) (Operand.const (Value.bool false)), type := 4, pos := "law.go:20", after := #[{ on := 47, ground := Ground.data }, { on := 52, ground := Ground.data }], guard := none }) (v := ?_) rfl (by kernel_rfl) (by kernel_rfl) (by kernel_rfl) (by kernel_rfl) (fun _ _ _ h => h) (Or.inl ⟨by rfl, ?_⟩) (by exact S) ?_
  rotate_left 1
  · intro w hSw
    clear hSw
    go_simp
    try with_reducible rfl
  simp only [Act.put, List.setIfInBounds_toArray, List.set_cons_zero, List.set_cons_succ]
  refine Upto.ready (rs := [54]) (by kernel_rfl) (by simp) ?_
  refine Nexts.last rfl (fun K hK => ?_)
  go_simp
  refine hK.out _ _ ?_
  clear hK K
  refine Upto.done (by kernel_rfl) ?_ _
  go_wp2
  go_ret
  exact ⟨by simp, S.low⟩
end Go.Proofs.YtplhblhopaheeaaGreatDoor
namespace Go.Proofs.YtplhblhopaheeaaGreatDoor
open Go.ChangeShapes Go.WideShapes Go.ChangeAt Go.RowKit
set_option linter.unusedVariables false
set_option linter.unusedSimpArgs false

def FitI (i : IV) : Prop := ∃ d n m a l : Nat, (i.d = d ∧ i.n = n ∧ i.m = m ∧ i.a = a ∧ i.list = l) ∧ (d < 16 ∧ n < 16 ∧ m < 16 ∧ a < 16 ∧ l < 65536) ∧ (i.op = 43 → i.s = false) ∧ (branchesI i l = true ∨ (15 : Int) ∉ regsL d n m a l (givesN i))
theorem same_fit (i : IV) (h : FitI i) (w : World) : Calls Tryz.prog 10 #[i.val] w fun e w' => e = .returned (.bool true) ∧ Below w.heap.size w w' := by
  obtain ⟨d, n, m, a, l, ⟨hd, hn, hm, ha, hl⟩, ⟨hd2, hn2, hm2, ha2, l2⟩, h43, h15⟩ := h
  exact same_c i d n m a l hd hn hm ha hl hd2 hn2 hm2 ha2 l2 h43 h15 w
/-- Another condition: alike, too. -/
theorem fit_with (i : IV) (c : Int) (h : FitI i) : FitI { i with cond := c } := h
theorem rest_6 (o : Int) : restGivesS o = 0 ∨ restGivesS o = 32 ∨ classS o = 6 := by
  rcases (show o ≤ 53 ∨ (54 ≤ o ∧ o ≤ 59) ∨ (60 ≤ o ∧ o ≤ 61) ∨ o = 62 ∨ 63 ≤ o by omega) with h | h | h | h | h
  · left
    unfold restGivesS
    (repeat' split) <;> omega
  · right
    right
    unfold classS
    (repeat' split) <;> omega
  · left
    unfold restGivesS
    (repeat' split) <;> omega
  · right
    left
    subst h
    rfl
  · left
    unfold restGivesS
    (repeat' split) <;> omega
theorem gives_cases (i : IV) : (givesN i = 0 ∨ givesN i = 1 ∨ givesN i = 32) ∨ (classS i.op = 2 ∧ givesN i = 9) ∨ classS i.op = 6 ∨ (i.back = true ∧ (givesN i = 2 ∨ givesN i = 18)) ∨ givesN i = 16 := by
  unfold givesN givesS manyGivesS
  by_cases h1 : classS i.op = 1
  · rw [if_pos h1]
    cases comparesS i.op <;> simp
  · rw [if_neg h1]
    by_cases h2 : classS i.op = 2
    · rw [if_pos h2]
      by_cases h : 24 ≤ i.op ∧ i.op ≤ 27
      · rw [if_pos h]
        exact .inr (.inl ⟨h2, rfl⟩)
      · rw [if_neg h]
        exact .inl (.inr (.inl rfl))
    · rw [if_neg h2]
      by_cases h3 : classS i.op = 3
      · rw [if_pos h3]
        exact .inl (.inr (.inl rfl))
      · rw [if_neg h3]
        by_cases h4 : classS i.op = 4
        · rw [if_pos h4]
          cases loadsI i.op <;> simp
        · rw [if_neg h4]
          by_cases h5 : classS i.op = 5
          · rw [if_pos h5]
            cases loadsI i.op <;> cases i.back <;> simp
          · rw [if_neg h5]
            rcases rest_6 i.op with h | h | h
            · rw [h]
              exact .inl (.inl rfl)
            · rw [h]
              exact .inl (.inr (.inr rfl))
            · exact .inr (.inr (.inl h))
theorem mem_regs (x d n m a : Int) (l W : Nat) : x ∈ regsL d n m a l W ↔ ((W.testBit 0 = true ∧ x = d) ∨ (W.testBit 1 = true ∧ x = n) ∨ (W.testBit 2 = true ∧ x = m) ∨ (W.testBit 3 = true ∧ x = a)) ∨ (W.testBit 4 = true ∧ ∃ r : Nat, r < 16 ∧ l.testBit r = true ∧ x = (r : Int)) ∨ (W.testBit 5 = true ∧ x = 0) ∨ (W.testBit 6 = true ∧ x = 14) ∨ (W.testBit 7 = true ∧ x = 15) := by
  simp only [regsL, fourL, restL, List.mem_append, memB, memL]
theorem fit_of (i : IV) (d n m a l : Nat) (hd : i.d = d) (hn : i.n = n) (hm : i.m = m) (ha : i.a = a) (hl : i.list = l) (hd2 : d < 16) (hn2 : n < 16) (hm2 : m < 16) (ha2 : a < 16) (l2 : l < 65536) (h43 : i.op = 43 → i.s = false)
    (h : classS i.op = 6 ∨ (d ≠ 15 ∧ (classS i.op = 2 → a ≠ 15) ∧ (i.back = true → n ≠ 15) ∧ (l.testBit 15 = true → i.op = 52))) : FitI i := by
  refine ⟨d, n, m, a, l, ⟨hd, hn, hm, ha, hl⟩, ⟨hd2, hn2, hm2, ha2, l2⟩, h43, ?_⟩
  by_cases hb : branchesI i l = true
  · exact .inl hb
  · right
    have hc : classS i.op ≠ 6 := fun e => hb (by simp [branchesI, e])
    rcases h with h | ⟨h1, h2, h3, h4⟩
    · exact absurd h hc
    · have h5 : ¬ l.testBit 15 = true := fun e => hb (by simp [branchesI, h4 e, e])
      rw [mem_regs]
      have hD : (15 : Int) ≠ d := by omega
      have hL : ¬ ∃ r : Nat, r < 16 ∧ l.testBit r = true ∧ (15 : Int) = (r : Int) := by
        rintro ⟨r, _, q1, q2⟩
        have : r = 15 := by omega
        subst this
        exact h5 q1
      rcases gives_cases i with (e | e | e) | ⟨e1, e⟩ | e | ⟨e1, e | e⟩ | e
      · rw [e]
        simp
      · rw [e]
        simp [show Nat.testBit 1 1 = false from rfl, show Nat.testBit 1 2 = false from rfl, show Nat.testBit 1 3 = false from rfl, show Nat.testBit 1 4 = false from rfl, show Nat.testBit 1 5 = false from rfl, show Nat.testBit 1 6 = false from rfl, show Nat.testBit 1 7 = false from rfl, hD]
      · rw [e]
        simp [show Nat.testBit 32 0 = false from rfl, show Nat.testBit 32 1 = false from rfl, show Nat.testBit 32 2 = false from rfl, show Nat.testBit 32 3 = false from rfl, show Nat.testBit 32 4 = false from rfl, show Nat.testBit 32 6 = false from rfl, show Nat.testBit 32 7 = false from rfl]
      · have hA : (15 : Int) ≠ a := by have := h2 e1; omega
        rw [e]
        simp [show Nat.testBit 9 1 = false from rfl, show Nat.testBit 9 2 = false from rfl, show Nat.testBit 9 4 = false from rfl, show Nat.testBit 9 5 = false from rfl, show Nat.testBit 9 6 = false from rfl, show Nat.testBit 9 7 = false from rfl, hD, hA]
      · exact absurd e hc
      · have hN : (15 : Int) ≠ n := by have := h3 e1; omega
        rw [e]
        simp [show Nat.testBit 2 0 = false from rfl, show Nat.testBit 2 2 = false from rfl, show Nat.testBit 2 3 = false from rfl, show Nat.testBit 2 4 = false from rfl, show Nat.testBit 2 5 = false from rfl, show Nat.testBit 2 6 = false from rfl, show Nat.testBit 2 7 = false from rfl, hN]
      · have hN : (15 : Int) ≠ n := by have := h3 e1; omega
        rw [e]
        simp only [show Nat.testBit 18 0 = false from rfl, show Nat.testBit 18 2 = false from rfl, show Nat.testBit 18 3 = false from rfl, show Nat.testBit 18 5 = false from rfl, show Nat.testBit 18 6 = false from rfl, show Nat.testBit 18 7 = false from rfl, hN, hL]
        simp
      · rw [e]
        simp only [show Nat.testBit 16 0 = false from rfl, show Nat.testBit 16 1 = false from rfl, show Nat.testBit 16 2 = false from rfl, show Nat.testBit 16 3 = false from rfl, show Nat.testBit 16 5 = false from rfl, show Nat.testBit 16 6 = false from rfl, show Nat.testBit 16 7 = false from rfl, hL]
        simp
def nvB (v : NV) : Bool := Nat.blt v.d 16 && (Nat.blt v.n 16 && (Nat.blt v.m 16 && (Nat.blt v.list 65536 && ((!(Nat.beq v.op 43) || !v.s) && ((Nat.ble 54 v.op && Nat.ble v.op 59) || (!(Nat.beq v.d 15) && (!(v.back && Nat.beq v.n 15) && (!(v.list.testBit 15) || Nat.beq v.op 52))))))))
set_option maxRecDepth 100000 in
theorem nv_0 : allAt (fun h => nvB (decN h true) && nvB (decN h false)) 0 = true := by kernel_rfl
set_option maxRecDepth 100000 in
theorem nv_1 : allAt (fun h => nvB (decN h true) && nvB (decN h false)) 1 = true := by kernel_rfl
set_option maxRecDepth 100000 in
theorem nv_2 : allAt (fun h => nvB (decN h true) && nvB (decN h false)) 2 = true := by kernel_rfl
set_option maxRecDepth 100000 in
theorem nv_3 : allAt (fun h => nvB (decN h true) && nvB (decN h false)) 3 = true := by kernel_rfl
set_option maxRecDepth 100000 in
theorem nv_4 : allAt (fun h => nvB (decN h true) && nvB (decN h false)) 4 = true := by kernel_rfl
set_option maxRecDepth 100000 in
theorem nv_5 : allAt (fun h => nvB (decN h true) && nvB (decN h false)) 5 = true := by kernel_rfl
set_option maxRecDepth 100000 in
theorem nv_6 : allAt (fun h => nvB (decN h true) && nvB (decN h false)) 6 = true := by kernel_rfl
set_option maxRecDepth 100000 in
theorem nv_7 : allAt (fun h => nvB (decN h true) && nvB (decN h false)) 7 = true := by kernel_rfl
set_option maxRecDepth 100000 in
theorem nv_8 : allAt (fun h => nvB (decN h true) && nvB (decN h false)) 8 = true := by kernel_rfl
set_option maxRecDepth 100000 in
theorem nv_9 : allAt (fun h => nvB (decN h true) && nvB (decN h false)) 9 = true := by kernel_rfl
set_option maxRecDepth 100000 in
theorem nv_10 : allAt (fun h => nvB (decN h true) && nvB (decN h false)) 10 = true := by kernel_rfl
set_option maxRecDepth 100000 in
theorem nv_11 : allAt (fun h => nvB (decN h true) && nvB (decN h false)) 11 = true := by kernel_rfl
set_option maxRecDepth 100000 in
theorem nv_12 : allAt (fun h => nvB (decN h true) && nvB (decN h false)) 12 = true := by kernel_rfl
set_option maxRecDepth 100000 in
theorem nv_13 : allAt (fun h => nvB (decN h true) && nvB (decN h false)) 13 = true := by kernel_rfl
set_option maxRecDepth 100000 in
theorem nv_14 : allAt (fun h => nvB (decN h true) && nvB (decN h false)) 14 = true := by kernel_rfl
set_option maxRecDepth 100000 in
theorem nv_15 : allAt (fun h => nvB (decN h true) && nvB (decN h false)) 15 = true := by kernel_rfl
theorem nv_all (h : Nat) (hh : h < 65536) (b : Bool) : nvB (decN h b) = true := by
  have := allAt_at (p := fun h => nvB (decN h true) && nvB (decN h false)) (fun a ha => by
    rcases (show a = 0 ∨ a = 1 ∨ a = 2 ∨ a = 3 ∨ a = 4 ∨ a = 5 ∨ a = 6 ∨ a = 7 ∨ a = 8 ∨ a = 9 ∨ a = 10 ∨ a = 11 ∨ a = 12 ∨ a = 13 ∨ a = 14 ∨ a = 15 by omega) with rfl | rfl | rfl | rfl | rfl | rfl | rfl | rfl | rfl | rfl | rfl | rfl | rfl | rfl | rfl | rfl
    · exact nv_0
    · exact nv_1
    · exact nv_2
    · exact nv_3
    · exact nv_4
    · exact nv_5
    · exact nv_6
    · exact nv_7
    · exact nv_8
    · exact nv_9
    · exact nv_10
    · exact nv_11
    · exact nv_12
    · exact nv_13
    · exact nv_14
    · exact nv_15) h hh
  rw [Bool.and_eq_true] at this
  cases b
  · exact this.2
  · exact this.1
theorem fit_nv (v : NV) (h : nvB v = true) : FitI v.iv := by
  unfold nvB at h
  simp only [Bool.and_eq_true, Bool.or_eq_true, Bool.not_eq_true', Bool.and_eq_false_imp, Nat.blt_eq, Nat.ble_eq, Nat.beq_eq_true_eq] at h
  obtain ⟨h1, h2, h3, h4, h5, h6⟩ := h
  refine fit_of v.iv v.d v.n v.m 0 v.list rfl rfl rfl rfl rfl h1 h2 h3 (by decide) h4 ?_ ?_
  · intro e
    have e' : v.op = 43 := by
      have : ((v.op : Nat) : Int) = 43 := e
      omega
    rcases h5 with h5 | h5
    · rw [e'] at h5
      cases h5
    · exact h5
  · rcases h6 with ⟨q1, q2⟩ | ⟨q1, q2, q3⟩
    · left
      show classS ((v.op : Nat) : Int) = 6
      unfold classS
      (repeat' split) <;> omega
    · right
      refine ⟨fun e => ?_, fun _ => by decide, fun e1 e2 => ?_, fun e => ?_⟩
      · rw [e] at q1
        cases q1
      · have q := q2 e1
        rw [e2] at q
        cases q
      · rcases q3 with q3 | q3
        · rw [q3] at e
          cases e
        · have q4 : v.op = 52 := by first | exact q3 | exact Nat.eq_of_beq_eq_true q3
          show ((v.op : Nat) : Int) = 52
          omega
theorem fit_narrow (h : Nat) (hh : h < 65536) (b : Bool) : FitI (decN h b).iv := fit_nv _ (nv_all h hh b)
end Go.Proofs.YtplhblhopaheeaaGreatDoor
