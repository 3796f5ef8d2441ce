/- Stage 9: the document: a list of registers. -/
import Derived.Test.YtplhblhopaheeaaGreatDoorWg1
import Derived.Test.YtplhblhopaheeaaGreatDoorYa
namespace Go.Proofs.YtplhblhopaheeaaGreatDoor
open Go.ChangeShapes Go.WideShapes Go.ChangeAt Go.RowKit
set_option linter.unusedVariables false
set_option linter.unusedSimpArgs false
set_option maxHeartbeats 20000000
set_option maxRecDepth 100000

theorem info3_w : (Tryz.prog.info? 3).map (fun i => (i.zero, i.size, i.bytes)) = some (some (.int .i64 0), 1, 8) := by kernel_rfl
theorem alloc_sizeL (w : World) (o : Obj) : (w.alloc o).heap.size = w.heap.size + 1 := by
  show (w.heap.push o).size = _
  simp
theorem one_newL (w : World) (x : Value) : ∀ j u, [x][j]? = some u → (w.alloc (Obj.cells #[x] 3)).cell? ((⟨w.heap.size, 0, none⟩ : Addr).add j) = some u := by
  intro j u hj
  match j, hj with
  | 0, hj =>
    simp only [List.getElem?_cons_zero, Option.some.injEq] at hj
    subst hj
    rw [show (⟨w.heap.size, 0, none⟩ : Addr).add 0 = ⟨w.heap.size, 0, none⟩ from rfl, World.cell?_alloc_new]
    rfl
theorem i64_bitv' (x n : Nat) (hx : x < 65536) : bits .and .i64 ((x : Int) / 2 ^ n) 1 = ((fd_w x n 1 : Nat) : Int) := by
  have : x / 2 ^ n ≤ x := Nat.div_le_self _ _
  rw [show ((x : Int) / 2 ^ n) = ((x / 2 ^ n : Nat) : Int) by simp, show (1 : Int) = ((2 ^ 1 - 1 : Nat) : Int) from rfl, (bits_nat .i64 33 (by decide) (fun n h1 h2 => by rw [IntKind.wrap_i64]; omega) _ _ (by omega) (by decide)).1, fd_land_w]
theorem popN_le (m : Nat) : ∀ r, popN m r ≤ r
  | 0 => Nat.le_refl _
  | r + 1 => by
    have := popN_le m r
    have := fd_lt_w m r 1
    show popN m r + fd_w m r 1 ≤ r + 1
    omega
def liRel (w wr : World) (m : Nat) (v j : Value) : Prop := Below w.heap.size w wr ∧ ∃ r : Nat, r ≤ 16 ∧ j = .int .i64 (r : Nat) ∧ ∃ xs, wr.ownsRow w.heap.size 3 1 v (popN m r) xs
theorem rlist_c_w (m : Nat) (hm : m < 65536) (w : World) : Calls Tryz.prog 81 #[.int .i64 m, .bool true] w fun e w' => (∃ p n c, e = .returned (.slice p n c) ∧ n = popN m 16) ∧ Below w.heap.size w w' := by
  obtain ⟨i0, hi, hz0, hz1, hz2⟩ := info_parts info3_w
  have hm0 : (0 : Int) ≤ (m : Int) := by omega
  have hst : liRel w w m (.slice none 0 0) (.int .i64 0) := ⟨Below.refl _ _, 0, Nat.zero_le _, rfl, [], rfl, .inl ⟨rfl, rfl⟩⟩
  go_enter Tryz.func81, Tryz.ntmps81
  go_wp2_with fail
  go_loopw [5, 6] (fun v j wr => liRel w wr m v j) (fun _ j _ => 16 - (intOf j).toNat)
  case atStart => exact hst
  case round =>
    clear hst
    obtain ⟨hb, r, hr, rfl, xs, ho⟩ := hrel
    have hsz := hb.size
    have HB : Hid _ := hb
    clear hb
    have hpl := popN_le m r
    rcases (show r = 16 ∨ r < 16 by omega) with rfl | hlt
    · have HO : Hid _ := ho
      clear ho hr hpl
      go_wp2
      go_ret
      refine ⟨?_, HB.out⟩
      rcases HO.out.2 with ⟨e, h0⟩ | ⟨g, cap, cur, e, _⟩
      · exact ⟨_, _, _, congrArg Ending.returned e, h0.symm⟩
      · exact ⟨_, _, _, congrArg Ending.returned e, rfl⟩
    · have kn := i64_bitv' m r hm
      have hf := fd_lt_w m r 1
      have hstep : Hid (popN m (r + 1) = popN m r + fd_w m r 1) := rfl
      have t1 : decide ((r : Int) < 16) = true := by simp; omega
      have t1p : ((r : Int) < 16) = True := by simp; omega
      rcases (show fd_w m r 1 = 0 ∨ fd_w m r 1 = 1 by omega) with e0 | e0
      · rw [e0] at kn
        have HO : Hid _ := ho
        have HS : Hid (popN m (r + 1) = popN m r) := by
          have := hstep.out
          rw [e0] at this
          exact this
        clear ho hpl hf e0 hstep
        go_wp2
        go_roundw
        case rel => exact ⟨HB.out, r + 1, hlt, by push_cast; rfl, xs, by rw [HS.out]; exact HO.out⟩
        case measure =>
          simp only [intOf]
          omega
      · rw [e0] at kn
        have HS : Hid (popN m (r + 1) = popN m r + 1) := by
          have := hstep.out
          rw [e0] at this
          exact this
        clear hf e0 hstep
        rcases (show r = 15 ∨ r < 15 by omega) with rfl | h15
        all_goals
          try have t2 : decide ((r : Int) < 15) = true := by simp; omega
          try have t2p : ((r : Int) < 15) = True := by simp; omega
          go_wp2_with (first
            | (at_builtin; refine wpList_append_own _ rfl _ _ 51 rfl w.heap.size 3 i0 (.int .i64 0) 1 8 Tryz.underlying51 hi hz0 hz1 hz2 rfl (by decide) _ _ xs rfl (ho.alloc _) ⟨wr.heap.size, 0, none⟩ 1 1 [.int .i64 _] rfl rfl (one_newL _ _) (by intro u hu; simp at hu; subst hu; rfl) (by simp only [maxLen]; omega) (by omega) (by rw [alloc_sizeL]; omega) ?_)
            | fail)
          intro v' w3 ho' hg _
          have HR' : Hid (Below w.heap.size w w3 ∧ ∃ xs, w3.ownsRow w.heap.size 3 1 v' (popN m _ + 1) xs) := ⟨Below.grown (Below.alloc HB.out hsz _) hg (by rw [alloc_sizeL]; omega) (fun k hk => (ho.lt k hk).1), _, ho'⟩
          clear ho' hg HB ho hsz hi hz0 hz1 hz2 hpl
          go_wp2
          go_roundw
          case rel => exact ⟨HR'.out.1, _, hlt, by push_cast; rfl, by rw [HS.out]; exact HR'.out.2⟩
          case measure =>
            simp only [intOf]
            omega
end Go.Proofs.YtplhblhopaheeaaGreatDoor
namespace Go.Proofs.YtplhblhopaheeaaGreatDoor
open Go.ChangeShapes Go.WideShapes Go.ChangeAt Go.RowKit
set_option linter.unusedVariables false
set_option linter.unusedSimpArgs false
set_option maxHeartbeats 20000000
set_option maxRecDepth 100000

theorem rmany_g (h k gn p gl b5 g13 g14 g15 gN pp x : Nat) (X : IV) (kn : bits .and .u16 (h : Int) 15 = (gn : Int)) (kp : bits .and .u16 ((h : Int) / 128) 3 = (p : Int)) (kl : bits .and .u16 ((h : Int) / 16) 1 = (gl : Int)) (k5 : bits .and .u16 ((h : Int) / 32) 1 = (b5 : Int)) (k13 : bits .and .u16 ((k : Int) / 8192) 1 = (g13 : Int)) (k14 : (k : Int) / 16384 = (g14 : Int)) (k15 : (k : Int) / 32768 = (g15 : Int)) (kN : bits .and .i64 ((k : Int) / 2 ^ gn) 1 = (gN : Int))
    (bk : k < 65536) (bn : gn < 16) (bp : p < 4) (bl : gl < 2) (bb5 : b5 < 2) (b13 : g13 < 2) (b14 : g14 < 4) (b15 : g15 < 2) (bN : gN < 2)
    (CL : ∀ w, Calls Tryz.prog 81 #[.int .i64 k, .bool true] w fun e w' => (∃ p n c, e = .returned (.slice p n c) ∧ n = pp) ∧ Below w.heap.size w w')
    (HU : (p = 1 ∨ p = 2) → (gn = 15 ∨ g13 = 1 ∨ pp < 2 ∨ (gl = 0 ∧ g15 = 1) ∨ (gl = 1 ∧ g14 = 3) ∨ (b5 = 1 ∧ gN = 1)) → fin (startI 65 0 0) true x = X)
    (HG : ∀ ldm back down : Bool, ((p = 1 ∧ down = false) ∨ (p = 2 ∧ down = true)) → ((gl = 0 ∧ ldm = false ∧ g15 = 0) ∨ (gl = 1 ∧ ldm = true ∧ g14 ≠ 3)) → ((b5 = 0 ∧ back = false) ∨ (b5 = 1 ∧ back = true ∧ gN = 0)) → gn ≠ 15 → g13 = 0 → 2 ≤ pp → fin (manyI ldm gn k back down) true x = X)
    (HZ : (p = 0 ∨ p = 3) → fin IV.zero false x = X)
    (w : World) : Calls Tryz.prog 78 #[.int .u16 h, .int .u16 k] w fun e w' => Two w X x e w' := by
  have QL : Hid _ := CL
  clear CL
  have nn0 : (0 : Int) ≤ (gn : Int) := by omega
  rcases (show p = 0 ∨ p = 3 ∨ (p = 1 ∨ p = 2) by omega) with rfl | rfl | hp12
  focus
    replace kp : bits .and .u16 ((h : Int) / 128) 3 = 0 := kp
    have HX : Hid (fin (IV.zero) false x = X) := HZ (.inl rfl)
    clear HU HG HZ
  rotate_left 1
  focus
    replace kp : bits .and .u16 ((h : Int) / 128) 3 = 3 := kp
    have HX : Hid (fin (IV.zero) false x = X) := HZ (.inr rfl)
    clear HU HG HZ
  rotate_left 1
  focus
    have p0 : ((p : Int) == 0) = false := by simp; omega
    have p3 : ((p : Int) == 3) = false := by simp; omega
    obtain ⟨dn, hdn2⟩ : ∃ dn, ((p : Int) == 2) = dn := ⟨_, rfl⟩
    have hdn : Hid ((p = 1 ∧ dn = false) ∨ (p = 2 ∧ dn = true)) := by
      rcases hp12 with rfl | rfl
      · exact .inl ⟨rfl, by rw [← hdn2]; rfl⟩
      · exact .inr ⟨rfl, by rw [← hdn2]; rfl⟩
    rcases (show gl = 0 ∨ gl = 1 by omega) with rfl | rfl
    focus
      replace kl : bits .and .u16 ((h : Int) / 16) 1 = 0 := kl
      rcases (show gn = 15 ∨ gn ≠ 15 by omega) with hn | hn
      focus
        have n1 : ((gn : Int) == 15) = true := by simp; omega
        have HX : Hid (fin (startI 65 0 0) true x = X) := HU (by omega) (.inl hn)
        clear HU HG HZ
        clear hp12 hdn
        clear hn
      rotate_left 1
      focus
        have n1 : ((gn : Int) == 15) = false := by simp; omega
        rcases (show g13 = 0 ∨ g13 = 1 by omega) with rfl | rfl
        focus
          replace k13 : bits .and .u16 ((k : Int) / 8192) 1 = 0 := k13
          rcases (show pp < 2 ∨ 2 ≤ pp by omega) with hp | hp
          focus
            have p2 : decide ((pp : Int) < 2) = true := by simp; omega
            have p3 : ((pp : Int) < 2) = True := by simp; omega
            have HX : Hid (fin (startI 65 0 0) true x = X) := HU (by omega) (.inr (.inr (.inl hp)))
            clear HU HG HZ
            clear hp12 hdn
            clear hn hp
          rotate_left 1
          focus
            have p2 : decide ((pp : Int) < 2) = false := by simp; omega
            have p3 : ((pp : Int) < 2) = False := by simp; omega
            rcases (show g15 = 0 ∨ g15 = 1 by omega) with rfl | rfl
            focus
              replace k15 : (k : Int) / 32768 = 0 := k15
              rcases (show b5 = 0 ∨ b5 = 1 by omega) with rfl | rfl
              focus
                replace k5 : bits .and .u16 ((h : Int) / 32) 1 = 0 := k5
                have HX : Hid (fin (manyI false gn k false dn) true x = X) := HG false false dn hdn (.inl ⟨rfl, rfl, rfl⟩) (.inl ⟨rfl, rfl⟩) hn rfl hp
                clear HU HG HZ
                clear hp12 hdn
                clear hn hp
              rotate_left 1
              focus
                replace k5 : bits .and .u16 ((h : Int) / 32) 1 = 1 := k5
                rcases (show gN = 0 ∨ gN = 1 by omega) with rfl | rfl
                focus
                  replace kN : bits .and .i64 ((k : Int) / 2 ^ gn) 1 = 0 := kN
                  have HX : Hid (fin (manyI false gn k true dn) true x = X) := HG false true dn hdn (.inl ⟨rfl, rfl, rfl⟩) (.inr ⟨rfl, rfl, rfl⟩) hn rfl hp
                  clear HU HG HZ
                  clear hp12 hdn
                  clear hn hp
                rotate_left 1
                focus
                  replace kN : bits .and .i64 ((k : Int) / 2 ^ gn) 1 = 1 := kN
                  have HX : Hid (fin (startI 65 0 0) true x = X) := HU (by omega) (.inr (.inr (.inr (.inr (.inr ⟨rfl, rfl⟩)))))
                  clear HU HG HZ
                  clear hp12 hdn
                  clear hn hp
                rotate_left 1
              rotate_left 2
            rotate_left 3
            focus
              replace k15 : (k : Int) / 32768 = 1 := k15
              have HX : Hid (fin (startI 65 0 0) true x = X) := HU (by omega) (.inr (.inr (.inr (.inl ⟨rfl, rfl⟩))))
              clear HU HG HZ
              clear hp12 hdn
              clear hn hp
            rotate_left 1
          rotate_left 4
        rotate_left 5
        focus
          replace k13 : bits .and .u16 ((k : Int) / 8192) 1 = 1 := k13
          have HX : Hid (fin (startI 65 0 0) true x = X) := HU (by omega) (.inr (.inl rfl))
          clear HU HG HZ
          clear hp12 hdn
          clear hn
        rotate_left 1
      rotate_left 6
    rotate_left 7
    focus
      replace kl : bits .and .u16 ((h : Int) / 16) 1 = 1 := kl
      rcases (show gn = 15 ∨ gn ≠ 15 by omega) with hn | hn
      focus
        have n1 : ((gn : Int) == 15) = true := by simp; omega
        have HX : Hid (fin (startI 65 0 0) true x = X) := HU (by omega) (.inl hn)
        clear HU HG HZ
        clear hp12 hdn
        clear hn
      rotate_left 1
      focus
        have n1 : ((gn : Int) == 15) = false := by simp; omega
        rcases (show g13 = 0 ∨ g13 = 1 by omega) with rfl | rfl
        focus
          replace k13 : bits .and .u16 ((k : Int) / 8192) 1 = 0 := k13
          rcases (show pp < 2 ∨ 2 ≤ pp by omega) with hp | hp
          focus
            have p2 : decide ((pp : Int) < 2) = true := by simp; omega
            have p3 : ((pp : Int) < 2) = True := by simp; omega
            have HX : Hid (fin (startI 65 0 0) true x = X) := HU (by omega) (.inr (.inr (.inl hp)))
            clear HU HG HZ
            clear hp12 hdn
            clear hn hp
          rotate_left 1
          focus
            have p2 : decide ((pp : Int) < 2) = false := by simp; omega
            have p3 : ((pp : Int) < 2) = False := by simp; omega
            rcases (show g14 = 3 ∨ g14 ≠ 3 by omega) with rfl | h14
            focus
              replace k14 : (k : Int) / 16384 = 3 := k14
              have HX : Hid (fin (startI 65 0 0) true x = X) := HU (by omega) (.inr (.inr (.inr (.inr (.inl ⟨rfl, rfl⟩)))))
              clear HU HG HZ
              clear hp12 hdn
              clear hn hp
            rotate_left 1
            focus
              have n14 : ((g14 : Int) == 3) = false := by simp; omega
              rcases (show b5 = 0 ∨ b5 = 1 by omega) with rfl | rfl
              focus
                replace k5 : bits .and .u16 ((h : Int) / 32) 1 = 0 := k5
                have HX : Hid (fin (manyI true gn k false dn) true x = X) := HG true false dn hdn (.inr ⟨rfl, rfl, h14⟩) (.inl ⟨rfl, rfl⟩) hn rfl hp
                clear HU HG HZ
                clear hp12 hdn
                clear hn hp h14
              rotate_left 1
              focus
                replace k5 : bits .and .u16 ((h : Int) / 32) 1 = 1 := k5
                rcases (show gN = 0 ∨ gN = 1 by omega) with rfl | rfl
                focus
                  replace kN : bits .and .i64 ((k : Int) / 2 ^ gn) 1 = 0 := kN
                  have HX : Hid (fin (manyI true gn k true dn) true x = X) := HG true true dn hdn (.inr ⟨rfl, rfl, h14⟩) (.inr ⟨rfl, rfl, rfl⟩) hn rfl hp
                  clear HU HG HZ
                  clear hp12 hdn
                  clear hn hp h14
                rotate_left 1
                focus
                  replace kN : bits .and .i64 ((k : Int) / 2 ^ gn) 1 = 1 := kN
                  have HX : Hid (fin (startI 65 0 0) true x = X) := HU (by omega) (.inr (.inr (.inr (.inr (.inr ⟨rfl, rfl⟩)))))
                  clear HU HG HZ
                  clear hp12 hdn
                  clear hn hp h14
                rotate_left 1
              rotate_left 2
            rotate_left 3
          rotate_left 4
        rotate_left 5
        focus
          replace k13 : bits .and .u16 ((k : Int) / 8192) 1 = 1 := k13
          have HX : Hid (fin (startI 65 0 0) true x = X) := HU (by omega) (.inr (.inl rfl))
          clear HU HG HZ
          clear hp12 hdn
          clear hn
        rotate_left 1
      rotate_left 6
    rotate_left 7
  rotate_left 14
  all_goals
    go_enter Tryz.func78, Tryz.ntmps78
    have S := SH.start w
    go_wp2_with (first
     | ((with_reducible refine g_al 28 ?_); refine S.gal zI ?_; clear S; intro b w1 S)
     | ((with_reducible refine g_st 28 ?_); refine S.gst (i := ?_) (c := ?_) rfl rfl ?_ ?_ ?_ ?_ ?_; rotate_left 2; (with_reducible first | exact gi0 | exact gi1 | exact gi2 | exact gi3 | exact gi4 | exact gi5); rfl; rfl; exact sI rfl; clear S; intro w1 S; (try simp only [Cel.cells, zL, List.set_cons_zero, List.set_cons_succ, startI, secondI, noneI, manyI] at S))
     | ((with_reducible refine wpl_isDst 19 ?_); refine S.gsl [.int .i64 53, .int .i64 52] 3 (by kernel_rfl) ?_; clear S; intro g w1 S)
     | ((with_reducible refine g_ld 3 ?_); first | (refine g_skip rfl ?_) | (refine S.gld (i := ?_) (c := ?_) (v := ?_) Tryz.underlying3 rfl rfl rfl ?_ ?_ ?_; rotate_left 3; (with_reducible first | exact gi0 | exact gi1 | exact gi2 | exact gi3 | exact gi4 | exact gi5); exact rfl))
     | (go_at_call 119; refine (rwide_c _ _).mono ?_; rintro e wf ⟨rfl, hbf⟩; replace S := S.below hbf; clear hbf)
     | ((with_reducible refine g_st 3 ?_); refine S.gs1 (i := ?_) (c := ?_) (cs := ?_) (.int _ _) s_int rfl rfl rfl ?_ ?_ ?_ ?_; rotate_left 3; (with_reducible first | exact gi0 | exact gi1 | exact gi2 | exact gi3 | exact gi4 | exact gi5); exact of_decide_eq_true rfl; exact rfl; clear S; intro w1 S; (try simp only [Cel.cells, zL, List.set_cons_zero, List.set_cons_succ, startI, secondI, noneI, manyI] at S))
     | ((with_reducible refine g_st 4 ?_); refine S.gs1 (i := ?_) (c := ?_) (cs := ?_) (.bool _) s_bool rfl rfl rfl ?_ ?_ ?_ ?_; rotate_left 3; (with_reducible first | exact gi0 | exact gi1 | exact gi2 | exact gi3 | exact gi4 | exact gi5); exact of_decide_eq_true rfl; exact rfl; clear S; intro w1 S; (try simp only [Cel.cells, zL, List.set_cons_zero, List.set_cons_succ, startI, secondI, noneI, manyI] at S))
     | (go_at_call 81; refine (QL.out _).mono ?_; rintro e wf ⟨⟨pq, nq, cq, rfl, hnq⟩, hbf⟩; subst hnq; replace S := S.below hbf; clear hbf)
     | ((with_reducible refine g_ld 4 ?_); first | (refine g_skip rfl ?_) | (refine S.gld (i := ?_) (c := ?_) (v := ?_) Tryz.underlying4 rfl rfl rfl ?_ ?_ ?_; rotate_left 3; (with_reducible first | exact gi0 | exact gi1 | exact gi2 | exact gi3 | exact gi4 | exact gi5); exact rfl))
     | (go_at_call 118; refine (runp_c _).mono ?_; rintro e wf ⟨rfl, hbf⟩; replace S := S.below hbf; clear hbf)
     | ((with_reducible refine g_ld 28 ?_); first | (refine g_skip rfl ?_) | (refine S.gla (i := ?_) (c := ?_) Tryz.underlying28 rfl rfl rfl ?_ ?_ ?_; rotate_left 2; (with_reducible first | exact gi0 | exact gi1 | exact gi2 | exact gi3 | exact gi4 | exact gi5); exact sI rfl)))
    (try simp only [Exit.inBlock, Exit.then])
    apply bodyPost_ret
    refine S.gR2 (i := ?_) (c := ?_) Tryz.underlying28 rfl rfl rfl ?_ ?_
    rotate_left 2
    (with_reducible first | exact gi0 | exact gi1 | exact gi2 | exact gi3 | exact gi4 | exact gi5)
    exact sI rfl
    rfl
    exact ⟨_, _, rfl, HX.out, S.low⟩
end Go.Proofs.YtplhblhopaheeaaGreatDoor
namespace Go.Proofs.YtplhblhopaheeaaGreatDoor
open Go.ChangeShapes Go.WideShapes Go.ChangeAt Go.RowKit
set_option linter.unusedVariables false
set_option linter.unusedSimpArgs false
set_option maxHeartbeats 20000000
set_option maxRecDepth 100000

theorem rwords_g (h k g11 g15 g9 gb g8 g12 g6 x : Nat) (b : Bool) (X : IV) (k11 : (h : Int) / 2048 = (g11 : Int)) (k15 : (k : Int) / 32768 = (g15 : Int)) (k9 : (h : Int) / 512 = (g9 : Int)) (kb : bits .and .u16 (g9 : Int) 1 = (gb : Int)) (k8 : (h : Int) / 256 = (g8 : Int)) (k12 : (k : Int) / 4096 = (g12 : Int)) (k6 : bits .and .u16 ((h : Int) / 64) 1 = (g6 : Int)) (b15 : g15 < 2) (bb : gb < 2) (b6 : g6 < 2) (e98 : g9 = g8 / 2) (e11 : g11 = g8 / 8)
    (Cmodified : g11 = 30 ∧ g15 = 0 ∧ gb = 0 → ∀ w, Calls Tryz.prog 71 #[.int .u16 h, .int .u16 k] w fun e w' => Two w X x e w') (Cnumbers : g11 = 30 ∧ g15 = 0 ∧ gb = 1 → ∀ w, Calls Tryz.prog 72 #[.int .u16 h, .int .u16 k] w fun e w' => Two w X x e w')
    (Cbranch : g11 = 30 ∧ g15 = 1 → ∀ w, Calls Tryz.prog 73 #[.int .u16 h, .int .u16 k, .bool b] w fun e w' => Two w X x e w') (Cshifted : g9 = 117 → ∀ w, Calls Tryz.prog 74 #[.int .u16 h, .int .u16 k] w fun e w' => Two w X x e w')
    (Cunary : g8 = 250 ∧ g12 = 15 → ∀ w, Calls Tryz.prog 75 #[.int .u16 h, .int .u16 k] w fun e w' => Two w X x e w') (Cmultiply : g8 = 251 → ∀ w, Calls Tryz.prog 76 #[.int .u16 h, .int .u16 k] w fun e w' => Two w X x e w')
    (Cmemory : g9 = 124 → ∀ w, Calls Tryz.prog 77 #[.int .u16 h, .int .u16 k] w fun e w' => Two w X x e w') (Cmany : g9 = 116 ∧ g6 = 0 → ∀ w, Calls Tryz.prog 78 #[.int .u16 h, .int .u16 k] w fun e w' => Two w X x e w')
    (HZ : ((g9 = 116 ∧ g6 = 1) ∨ (g8 = 250 ∧ g12 ≠ 15) ∨ (g11 ≠ 30 ∧ g9 ≠ 117 ∧ g9 ≠ 116 ∧ g9 ≠ 124 ∧ g8 ≠ 250 ∧ g8 ≠ 251)) → fin IV.zero false x = X)
    (w : World) : Calls Tryz.prog 39 #[.int .u16 h, .int .u16 k, .bool b] w fun e w' => Two w X x e w' := by
  rcases (show g11 = 30 ∨ g11 ≠ 30 by omega) with rfl | n11
  focus
    replace k11 : (h : Int) / 2048 = 30 := k11
    rcases (show g15 = 0 ∨ g15 = 1 by omega) with rfl | rfl
    focus
      replace k15 : (k : Int) / 32768 = 0 := k15
      rcases (show gb = 0 ∨ gb = 1 by omega) with rfl | rfl
      focus
        replace kb : bits .and .u16 (g9 : Int) 1 = 0 := kb
        have Q : Hid _ := Cmodified ⟨rfl, rfl, rfl⟩
        clear Cmodified Cnumbers Cbranch Cshifted Cunary Cmultiply Cmemory Cmany HZ
        clear e98 e11
      rotate_left 1
      focus
        replace kb : bits .and .u16 (g9 : Int) 1 = 1 := kb
        have Q : Hid _ := Cnumbers ⟨rfl, rfl, rfl⟩
        clear Cmodified Cnumbers Cbranch Cshifted Cunary Cmultiply Cmemory Cmany HZ
        clear e98 e11
      rotate_left 1
    rotate_left 2
    focus
      replace k15 : (k : Int) / 32768 = 1 := k15
      have Q : Hid _ := Cbranch ⟨rfl, rfl⟩
      clear Cmodified Cnumbers Cbranch Cshifted Cunary Cmultiply Cmemory Cmany HZ
      clear e98 e11
    rotate_left 1
  rotate_left 3
  focus
    have m11 : ((g11 : Int) == 30) = false := by simp; omega
    rcases (show g9 = 117 ∨ g9 = 124 ∨ g9 = 116 ∨ g8 = 250 ∨ g8 = 251 ∨ (g9 ≠ 117 ∧ g9 ≠ 116 ∧ g9 ≠ 124 ∧ g8 ≠ 250 ∧ g8 ≠ 251) by omega) with c | c | c | c | c | ⟨c1, c2, c3, c4, c5⟩
    focus
      subst c
      replace k9 : (h : Int) / 512 = 117 := k9
      have Q : Hid _ := Cshifted rfl
      clear Cmodified Cnumbers Cbranch Cshifted Cunary Cmultiply Cmemory Cmany HZ
      clear n11 e98 e11
    rotate_left 1
    focus
      subst c
      replace k9 : (h : Int) / 512 = 124 := k9
      have m8250 : ((g8 : Int) == 250) = false := by simp; omega
      have m8251 : ((g8 : Int) == 251) = false := by simp; omega
      have Q : Hid _ := Cmemory rfl
      clear Cmodified Cnumbers Cbranch Cshifted Cunary Cmultiply Cmemory Cmany HZ
      clear n11 e98 e11
    rotate_left 1
    focus
      subst c
      replace k9 : (h : Int) / 512 = 116 := k9
      have m8250 : ((g8 : Int) == 250) = false := by simp; omega
      have m8251 : ((g8 : Int) == 251) = false := by simp; omega
      rcases (show g6 = 0 ∨ g6 = 1 by omega) with rfl | rfl
      focus
        replace k6 : bits .and .u16 ((h : Int) / 64) 1 = 0 := k6
        have Q : Hid _ := Cmany ⟨rfl, rfl⟩
        clear Cmodified Cnumbers Cbranch Cshifted Cunary Cmultiply Cmemory Cmany HZ
        clear n11 e98 e11
      rotate_left 1
      focus
        replace k6 : bits .and .u16 ((h : Int) / 64) 1 = 1 := k6
        have HX : Hid (fin IV.zero false x = X) := HZ (.inl ⟨rfl, rfl⟩)
        clear Cmodified Cnumbers Cbranch Cshifted Cunary Cmultiply Cmemory Cmany HZ
        clear n11 e98 e11
      rotate_left 1
    rotate_left 2
    focus
      subst c
      replace k8 : (h : Int) / 256 = 250 := k8
      have m9117 : ((g9 : Int) == 117) = false := by simp; omega
      have m9124 : ((g9 : Int) == 124) = false := by simp; omega
      have m9116 : ((g9 : Int) == 116) = false := by simp; omega
      rcases (show g12 = 15 ∨ g12 ≠ 15 by omega) with rfl | n12
      focus
        replace k12 : (k : Int) / 4096 = 15 := k12
        have Q : Hid _ := Cunary ⟨rfl, rfl⟩
        clear Cmodified Cnumbers Cbranch Cshifted Cunary Cmultiply Cmemory Cmany HZ
        clear n11 e98 e11
      rotate_left 1
      focus
        have m12 : ((g12 : Int) == 15) = false := by simp; omega
        have HX : Hid (fin IV.zero false x = X) := HZ (.inr (.inl ⟨rfl, n12⟩))
        clear Cmodified Cnumbers Cbranch Cshifted Cunary Cmultiply Cmemory Cmany HZ
        clear n11 e98 e11
        clear n12
      rotate_left 1
    rotate_left 2
    focus
      subst c
      replace k8 : (h : Int) / 256 = 251 := k8
      have m9117 : ((g9 : Int) == 117) = false := by simp; omega
      have m9124 : ((g9 : Int) == 124) = false := by simp; omega
      have m9116 : ((g9 : Int) == 116) = false := by simp; omega
      have Q : Hid _ := Cmultiply rfl
      clear Cmodified Cnumbers Cbranch Cshifted Cunary Cmultiply Cmemory Cmany HZ
      clear n11 e98 e11
    rotate_left 1
    focus
      have m8250 : ((g8 : Int) == 250) = false := by simp; omega
      have m8251 : ((g8 : Int) == 251) = false := by simp; omega
      have m9117 : ((g9 : Int) == 117) = false := by simp; omega
      have m9124 : ((g9 : Int) == 124) = false := by simp; omega
      have m9116 : ((g9 : Int) == 116) = false := by simp; omega
      have HX : Hid (fin IV.zero false x = X) := HZ (.inr (.inr ⟨n11, c1, c2, c3, c4, c5⟩))
      clear Cmodified Cnumbers Cbranch Cshifted Cunary Cmultiply Cmemory Cmany HZ
      clear n11 e98 e11
      clear c1 c2 c3 c4 c5
    rotate_left 1
  rotate_left 8
  all_goals
    go_enter Tryz.func39, Tryz.ntmps39
    have S := SH.start w
    go_wp2_with (first
     | ((with_reducible refine g_al 28 ?_); refine S.gal zI ?_; clear S; intro b w1 S)
     | (go_at_call 71; refine (Q.out _).mono ?_; rintro e wf ⟨i, ok, rfl, HX, hbf⟩; replace HX : Hid _ := HX; replace S := S.below hbf; clear hbf)
     | ((with_reducible refine g_st 28 ?_); refine S.gst (i := ?_) (c := ?_) rfl rfl ?_ ?_ ?_ ?_ ?_; rotate_left 2; (with_reducible first | exact gi0 | exact gi1 | exact gi2 | exact gi3 | exact gi4 | exact gi5); rfl; rfl; exact sI rfl; clear S; intro w1 S; (try simp only [Cel.cells, zL, List.set_cons_zero, List.set_cons_succ, startI, secondI, noneI] at S))
     | (go_at_call 72; refine (Q.out _).mono ?_; rintro e wf ⟨i, ok, rfl, HX, hbf⟩; replace HX : Hid _ := HX; replace S := S.below hbf; clear hbf)
     | (go_at_call 73; refine (Q.out _).mono ?_; rintro e wf ⟨i, ok, rfl, HX, hbf⟩; replace HX : Hid _ := HX; replace S := S.below hbf; clear hbf)
     | (go_at_call 74; refine (Q.out _).mono ?_; rintro e wf ⟨i, ok, rfl, HX, hbf⟩; replace HX : Hid _ := HX; replace S := S.below hbf; clear hbf)
     | (go_at_call 77; refine (Q.out _).mono ?_; rintro e wf ⟨i, ok, rfl, HX, hbf⟩; replace HX : Hid _ := HX; replace S := S.below hbf; clear hbf)
     | (go_at_call 78; refine (Q.out _).mono ?_; rintro e wf ⟨i, ok, rfl, HX, hbf⟩; replace HX : Hid _ := HX; replace S := S.below hbf; clear hbf)
     | (go_at_call 75; refine (Q.out _).mono ?_; rintro e wf ⟨i, ok, rfl, HX, hbf⟩; replace HX : Hid _ := HX; replace S := S.below hbf; clear hbf)
     | (go_at_call 76; refine (Q.out _).mono ?_; rintro e wf ⟨i, ok, rfl, HX, hbf⟩; replace HX : Hid _ := HX; replace S := S.below hbf; clear hbf))
    (try simp only [Exit.inBlock, Exit.then])
    apply bodyPost_ret
    refine S.gR2 (i := ?_) (c := ?_) Tryz.underlying28 rfl rfl rfl ?_ ?_
    rotate_left 2
    (with_reducible first | exact gi0 | exact gi1 | exact gi2 | exact gi3 | exact gi4 | exact gi5)
    exact sI rfl
    rfl
    exact ⟨_, _, rfl, HX.out, S.low⟩
end Go.Proofs.YtplhblhopaheeaaGreatDoor
