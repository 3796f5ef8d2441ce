/- HvmRuns, walked. -/
import Derived.Test.YtjhmmfpmmgebjaaGreatHvE
import Derived.Test.YtjhmmfpmmgebjaaGreatHvka
import Derived.Test.YtjhmmfpmmgebjaaGreatVj
import Derived.Test.YtjhmmfpmmgebjaaGreatVh
import Derived.Deep.Cut
namespace Go.Proofs.YtjhmmfpmmgebjaaGreat
open Go.ChangeShapes Go.WideShapes Go.ChangeAt Go.RowKit
set_option linter.unusedVariables false
set_option linter.unusedSimpArgs false
set_option maxHeartbeats 20000000
set_option maxRecDepth 100000

def cdOf (W : World) (v : Value) : Prop := ∃ (code : List HV) (A : Option Addr) (c : Nat), v = .slice A code.length c ∧ (∀ w', Below W.heap.size W w' → CL w' A code) ∧ (∀ b o, A = some ⟨b, o, none⟩ → code = [] ∨ b < W.heap.size)
theorem cdOf.mono {W W' : World} {v : Value} (h : cdOf W v) (hb : Below W.heap.size W W') : cdOf W' v := by
  obtain ⟨code, A, c, h1, h2, h3⟩ := h
  exact ⟨code, A, c, h1, fun w' h => h2 w' (hb.trans (h.mono hb.size)), fun b o e => (h3 b o e).imp id fun q => Nat.lt_of_lt_of_le q hb.size⟩
theorem Blk.below {w w' : World} {b : Nat} {cs : List Value} (h : Blk w b cs) (hb : Below w.heap.size w w') : Blk w' b cs := h.kept (hb.block b h.lt)
theorem cell_on {w w' : World} {b j : Nat} {v : Value} (h : w.cell? ⟨b, j, none⟩ = some v) (hb : Below w.heap.size w w') : w'.cell? ⟨b, j, none⟩ = some v := (hb.cell (World.block_lt_of_cell? w ⟨b, j, none⟩ h)).trans h
theorem L4.below {w w' : World} {A : Option Addr} {l : List (Int × Int × Int × Int)} (h : L4 w A l) (hb : Below w.heap.size w w') : L4 w' A l := fun i x hx => by
  obtain ⟨h0, b, o, rfl, h1⟩ := h i x hx
  exact ⟨h0, b, o, rfl, fun j u hj => cell_on (h1 j u hj) hb⟩
theorem U4.below {w w' : World} {A : Option Addr} {v : List Int} (h : U4 w A v) (hb : Below w.heap.size w w') : U4 w' A v := fun i x hx => by
  obtain ⟨h0, b, o, rfl, h1⟩ := h i x hx
  exact ⟨h0, b, o, rfl, cell_on h1 hb⟩
theorem CL.ofCells {w : World} {g : Nat} {C : List HV} (hc : ∀ j u, (codeC C)[j]? = some u → w.cell? ⟨g, j, none⟩ = some u) (hw : okC C) (hl : C.length ≤ 100000) : CL w (some ⟨g, 0, none⟩) C := by
  refine ⟨by omega, fun i x hx => ?_⟩
  have key : ∀ j, j < 6 → w.cell? ⟨g, i * 6 + j, none⟩ = (Cel.host x).cells[j]? := fun j hj => by
    have h1 := codeC_at hx j hj
    have h2 : (Cel.host x).cells[j]? = some ((Cel.host x).cells[j]'hj) := List.getElem?_eq_getElem hj
    rw [h2]
    exact hc _ _ (h1.trans h2)
  have z : ∀ k, 0 + i * 6 + k = i * 6 + k := fun k => by omega
  refine ⟨hw x (List.mem_of_getElem? hx), g, 0, rfl, ?_⟩
  refine ⟨?_, ?_, ?_, ?_, ?_, ?_⟩
  · have := key 0 (by decide); rw [Nat.add_zero] at this; rw [Nat.zero_add]; exact this
  all_goals rw [z]
  · exact key 1 (by decide)
  · exact key 2 (by decide)
  · exact key 3 (by decide)
  · exact key 4 (by decide)
  · exact key 5 (by decide)
theorem cd_cells {w : World} {g c : Nat} {C : List HV} (hc : ∀ j u, (codeC C)[j]? = some u → w.cell? ⟨g, j, none⟩ = some u) (hw : okC C) (hl : C.length ≤ 100000) : cdOf w (.slice (some ⟨g, 0, none⟩) C.length c) := by
  have h := CL.ofCells hc hw hl
  refine ⟨C, some ⟨g, 0, none⟩, c, rfl, fun w' hb => h.below hb, fun b o e => ?_⟩
  simp only [Option.some.injEq, Addr.mk.injEq, and_true] at e
  obtain ⟨rfl, rfl⟩ := e
  by_cases hC : C = []
  · exact .inl hC
  · obtain ⟨x, t, rfl⟩ := List.exists_cons_of_ne_nil hC
    have := hc 0 (.int .i64 x.op) rfl
    exact .inr (World.block_lt_of_cell? w ⟨g, 0, none⟩ this)
theorem cd_nil (w : World) (A : Option Addr) (c : Nat) : cdOf w (.slice A 0 c) := ⟨[], A, c, rfl, fun _ _ => ⟨by decide, fun i h hi => by simp at hi⟩, fun _ _ _ => .inl rfl⟩
theorem cd_old {w w' : World} {base cc : Nat} {A : Option Addr} {C : List HV} (h : HRow w base (.slice A C.length cc) C) (hk : ∀ g, (Value.slice A C.length cc).ownBlock = some g → ∀ j u, (codeC C)[j]? = some u → w'.cell? ⟨g, j, none⟩ = some u) (hw : okC C) (hl : C.length ≤ 30) : cdOf w' (.slice A C.length cc) := by
  by_cases hC : C = []
  · subst hC
    exact cd_nil w' A cc
  · obtain ⟨g, rfl, _⟩ := h.form (List.length_pos_iff.2 hC)
    exact cd_cells (hk g rfl) hw (by omega)
theorem cd_new {w : World} {base : Nat} {v : Value} {C : List HV} (h : w.ownsRow base 31 6 v (C.length + 1) (codeC C ++ (Cel.host mExit).cells)) (hw : okC C) (hl : C.length ≤ 30) : cdOf w v := by
  obtain ⟨g, cap, rfl, _⟩ := World.ownsRow.form h (by omega)
  have e : C.length + 1 = (C ++ [mExit]).length := by simp
  rw [e]
  refine cd_cells (fun j u hj => ?_) (fun x hx => ?_) (by simp; omega)
  · rw [codeC_snoc] at hj
    have := h.cells (g := g) rfl j u hj
    rwa [Addr.add_lit, Nat.zero_add] at this
  · rcases List.mem_append.1 hx with hx | hx
    · exact hw x hx
    · rw [List.mem_singleton.1 hx]
      exact ⟨by decide, by decide⟩
theorem bthru {a b c : World} (h : Below a.heap.size a b) (k : Below b.heap.size b c) : Below a.heap.size a c := h.trans (k.mono h.size)
theorem app_facts {w w2 W1 w16 w17 : World} {b14 base cc : Nat} {A : Option Addr} {C : List HV} {r : List Int} {vn vr : Value} {p : Nat × Cel} (hrw : HRow W1 base (.slice A C.length cc) C ∧ w2.heap.size ≤ base ∧ base ≤ W1.heap.size ∧ okC C ∧ C.length ≤ 30) (hlo : w.heap.size ≤ w2.heap.size) (hbw : Below w.heap.size w W1)
    (S : SH noZ W1 w16 [p, (b14, Cel.regs r)]) (hr : cdOf w vr) (hown : w17.ownsRow base 31 6 vn (C.length + 1) (codeC C ++ (Cel.host mExit).cells)) (hgr : w16.grownBy w17 (Value.slice A C.length cc).ownBlock) (hk : ∀ g, (Value.slice A C.length cc).ownBlock = some g → ∀ j u, (codeC C)[j]? = some u → w17.cell? ⟨g, j, none⟩ = some u) :
    Below w.heap.size w w17 ∧ Blk w17 b14 (Cel.regs r).cells ∧ cdOf w17 vr ∧ cdOf w17 (.slice A C.length cc) ∧ cdOf w17 vn := by
  obtain ⟨hrow, hb1, hb3, hC, hl⟩ := hrw
  have hb0 : ∀ k, (Value.slice A C.length cc).ownBlock = some k → w.heap.size ≤ k := fun k hk => Nat.le_trans hlo (Nat.le_trans hb1 (World.ownsRow.lt hrow k hk).1)
  have hbw' : Below w.heap.size w w16 := bthru hbw S.low
  have hb17 : Below w.heap.size w w17 := Below.grown hbw' hgr hbw'.size hb0
  obtain ⟨hB, ho, _⟩ := S.at (i := 1) rfl
  exact ⟨hb17, hB.kept (hgr.block b14 hB.lt fun e => by have := (World.ownsRow.lt hrow b14 e.symm).2; omega), hr.mono hb17, cd_old hrow hk hC hl, cd_new hown hC hl⟩
abbrev seatB : List Reg := seatBs 3 5 2 0
abbrev seatG : List (List Int) := [[9, 8, 7], [1, 2, 3, 4, 5], [6, 7], []]
theorem seatC : checkS (regAt seatB) seatB.length = 0 := seat_check (by decide) (by decide) (by decide) (by decide)
theorem seatL : ∀ g ∈ seatG, g.length ≤ 65536 := by
  intro g hg
  simp only [List.mem_cons, List.not_mem_nil, or_false] at hg
  rcases hg with rfl | rfl | rfl | rfl <;> decide
theorem okB_dec {bs : List Int} (h : bs.all (fun x => decide (0 ≤ x) && decide (x ≤ 255)) = true) : okB bs := fun x hx => by
  have := List.all_eq_true.1 h x hx
  simpa using this
theorem SH.seat {w0 w : World} {g1 g2 g3 : Nat} (S : SH noZ w0 w [(g3, Cel.any (cb [6, 7])), (g2, Cel.any (cb [1, 2, 3, 4, 5])), (g1, Cel.any (cb [9, 8, 7]))]) :
    Calls Tryz.prog 7 #[.slice (some ⟨g1, 0, none⟩) 3 3, .slice (some ⟨g2, 0, none⟩) 5 5, .slice (some ⟨g3, 0, none⟩) 2 2, .slice none 0 0] w fun e w' => e = .returned (.slice (some ⟨w.heap.size, 0, none⟩) 4 4) ∧ RL w' (fun b => w0.heap.size ≤ b ∧ b < w'.heap.size) (.slice (some ⟨w.heap.size, 0, none⟩) 4 4) seatB seatG ∧ Below w0.heap.size w0 w' := by
  have hs := S.mid.size
  have hb := S.low
  refine (seat_s (fun k => w0.heap.size ≤ k ∧ k < w.heap.size) _ _ _ _ [9, 8, 7] [1, 2, 3, 4, 5] [6, 7] [] w (fun b h => h.2) (S.bl [9, 8, 7] (i := 2) rfl (okB_dec (by decide)) 3) (S.bl [1, 2, 3, 4, 5] (i := 1) rfl (okB_dec (by decide)) 5) (S.bl [6, 7] (i := 0) rfl (okB_dec (by decide)) 2) (bl_nil _ _) (by decide) (by decide) (by decide) (by decide)).mono ?_
  rintro e w' ⟨rfl, hRL, hb2, hsz⟩
  exact ⟨rfl, hRL.mono fun b h => by rcases h with h | h <;> omega, bthru hb hb2⟩
theorem hidRL {w : World} {S : Nat → Prop} {v : Value} {Bs : List Reg} {G : List (List Int)} (h : RL w S v Bs G) : Hid (RL w S v Bs G) := h
def J0 (pm lo1 hi1 : Nat) (Bs : List Reg) (G D1 : List (List Int)) (q1 : Nat → Nat) (p2 l2 lo2 hi2 : Nat) (Bs2 : List Reg) (G2 D2 : List (List Int)) (q2 : Nat → Nat) (w : World) : Prop := MemAt w pm 0 lo1 hi1 Bs G D1 q1 ∧ MemAt w p2 l2 lo2 hi2 Bs2 G2 D2 q2
theorem stb_J0 {Z : Nat → Prop} {pm lo1 hi1 : Nat} {Bs : List Reg} {G D1 : List (List Int)} {q1 : Nat → Nat} {p2 l2 lo2 hi2 : Nat} {Bs2 : List Reg} {G2 D2 : List (List Int)} {q2 : Nat → Nat} (h1 : hi1 ≤ hi2) (h2 : l2 ≤ hi2) : Stb (fun k => k < hi2 ∨ Z k) (J0 pm lo1 hi1 Bs G D1 q1 p2 l2 lo2 hi2 Bs2 G2 D2 q2) :=
  stb_and (stb_mem fun k h => .inl (by rcases h with h | h <;> omega)) (stb_mem fun k h => .inl (by rcases h with h | h <;> omega))
section
variable {pm lo1 hi1 : Nat} {Bs : List Reg} {G D1 D1' : List (List Int)} {q1 : Nat → Nat} {p2 l2 lo2 hi2 : Nat} {Bs2 : List Reg} {G2 D2 D2' : List (List Int)} {q2 : Nat → Nat} {w0 w w1 : World} {L : List (Nat × Cel)} {A A2 : Option Addr} {n n2 c c2 base base2 : Nat} {E E2 : List HEv}
theorem SH.runX (S : SH (tZ lo1 hi2 (fun _ => False) (J0 pm lo1 hi1 Bs G D1 q1 p2 l2 lo2 hi2 Bs2 G2 D2 q2)) w0 w L) (h1 : hi1 ≤ hi2) (h2 : l2 ≤ hi2) (hmid : Mid lo1 hi1 w w1) (hM : MemAt w1 pm 0 lo1 hi1 Bs G D1' q1) (hN : MemAt w1 p2 l2 lo2 hi2 Bs2 G2 D2 q2)
    (hev : EvRow w1 base (.slice A n c) E) (hb : w.heap.size ≤ base) : SH (tZ lo1 hi2 (fun k => (Value.slice A n c).ownBlock = some k) (fun w => J0 pm lo1 hi1 Bs G D1' q1 p2 l2 lo2 hi2 Bs2 G2 D2 q2 w ∧ EvRow w base (.slice A n c) E)) w0 w1 L :=
  S.ranT (Nat.le_refl _) h1 hmid (stb_and (stb_J0 h1 h2) (stb_evs fun k h => .inr h)) ⟨⟨hM, hN⟩, hev⟩ fun k hk => .inr ⟨Nat.le_trans hb (World.ownsRow.lt hev k hk).1, (World.ownsRow.lt hev k hk).2⟩
theorem SH.runY (S : SH (tZ lo1 hi2 (fun k => (Value.slice A n c).ownBlock = some k) (fun w => J0 pm lo1 hi1 Bs G D1 q1 p2 l2 lo2 hi2 Bs2 G2 D2 q2 w ∧ EvRow w base (.slice A n c) E)) w0 w L) (h1 : hi1 ≤ lo2) (h3 : lo2 ≤ hi2) (h2 : l2 ≤ hi2) (hl : lo1 ≤ lo2) (hmid : Mid lo2 hi2 w w1) (hbb : hi2 ≤ base)
    (hN : MemAt w1 p2 l2 lo2 hi2 Bs2 G2 D2' q2) (hev : EvRow w1 base2 (.slice A2 n2 c2) E2) (hb : w.heap.size ≤ base2) :
    SH (tZ lo1 hi2 (fun k => (Value.slice A n c).ownBlock = some k ∨ (Value.slice A2 n2 c2).ownBlock = some k) (fun w => J0 pm lo1 hi1 Bs G D1 q1 p2 l2 lo2 hi2 Bs2 G2 D2' q2 w ∧ (EvRow w base (.slice A n c) E ∧ EvRow w base2 (.slice A2 n2 c2) E2))) w0 w1 L := by
  have hx := S.inv.2
  have hm := S.inv.1.1
  refine S.ranT hl (Nat.le_refl _) hmid (stb_and (stb_J0 (by omega) h2) (stb_and (stb_evs fun k h => .inr (.inl h)) (stb_evs fun k h => .inr (.inr h)))) ⟨⟨hm.mid hmid (Nat.zero_le _) (.inl h1), hN⟩, hx.kept fun g hg => hmid.block g (World.ownsRow.lt hx g hg).2 (.inr (Nat.le_trans hbb (World.ownsRow.lt hx g hg).1)), hev⟩ fun k hk => ?_
  rcases hk with hk | hk
  · exact .inl hk
  · exact .inr ⟨Nat.le_trans hb (World.ownsRow.lt hev k hk).1, (World.ownsRow.lt hev k hk).2⟩
theorem SH.lowT {lo hi : Nat} {Z : Nat → Prop} {J : World → Prop} (S : SH (tZ lo hi Z J) w0 w L) {W : World} (hW : Below W.heap.size W w0) (hl : W.heap.size ≤ lo) (hlo : lo ≤ w0.heap.size) : Below W.heap.size W w :=
  hW.trans ((Mid.below S.mid hlo).mono hl)
end
theorem neq_run {R : List Int} (hR : R.length = 32) {o : Oper} {a : Act} {x y : Operand} {t : TypeId} {w : World} (hx : a.eval x = (Cel.regs R).val) (hy : a.eval y = (Cel.regs R).val) (ho : o.op = .binOp .neq 27 x y t) : (execOp a.eval o).run Tryz.prog w = .ok (.value (.bool false)) w := by
  unfold execOp
  have hg : (eqGuard BinOp.neq 27 x y (Cel.regs R).val (Cel.regs R).val).run Tryz.prog w = .ok () w := by kernel_rfl
  simp only [ho, hx, hy, Sem.run_bind, hg, Sem.run_pure, Result.andThen_ok, regs_neq hR]
theorem runs_c (A0 A1 A2 : Option Addr) (c0 c1 c2 : Nat) (raw : List HV) (l : List (Int × Int × Int × Int)) (v : List Int) (at' most : Int) (nn : Bool) (w : World)
    (hraw : ∀ (i : Nat) (h : HV), raw[i]? = some h → h.wf ∧ ∃ b o, A0 = some ⟨b, o, none⟩ ∧ At6 w b (o + i * 6) h) (hra : ∀ b o, A0 = some ⟨b, o, none⟩ → raw = [] ∨ b < w.heap.size) (hl : L4 w A1 l) (hv : U4 w A2 v) :
    Calls Tryz.prog 3 #[.slice A0 raw.length c0, .slice A1 l.length c1, .slice A2 v.length c2, .int .i64 at', .int .i64 most, .bool nn] w fun e w' => e = .returned (.bool true) ∧ Below w.heap.size w w' := by
  have CK : Hid (∀ w1, Calls Tryz.prog 4 #[] w1 fun e w' => e = .returned (.bool true) ∧ Below w1.heap.size w1 w') := fun w1 => known_c w1
  by_cases q : raw.length ≤ 20 ∧ l.length ≤ 30 ∧ -1000000 ≤ at' ∧ at' ≤ 1000000
  rotate_left 1
  focus
    rcases (show decide ((raw.length : Int) > 20) = true ∨ (decide ((raw.length : Int) > 20) = false ∧ decide ((l.length : Int) > 30) = true) ∨ (decide ((raw.length : Int) > 20) = false ∧ decide ((l.length : Int) > 30) = false ∧ decide (at' < -1000000) = true) ∨ (decide ((raw.length : Int) > 20) = false ∧ decide ((l.length : Int) > 30) = false ∧ decide (at' < -1000000) = false ∧ decide (at' > 1000000) = true) by simp; omega) with t1 | ⟨t1, t2⟩ | ⟨t1, t2, t3⟩ | ⟨t1, t2, t3, t4⟩
    all_goals
      clear q
      go_enter Tryz.func3, Tryz.ntmps3
      go_wp2_with (first
        | (go_at_call 4; refine (CK.out _).mono ?_; rintro e w2 ⟨rfl, hb2⟩))
      go_ret
      exact ⟨rfl, hb2⟩
  obtain ⟨q1, q2, q3, q4⟩ := q
  have t1 : decide ((raw.length : Int) > 20) = false := by simp; omega
  have t2 : decide ((l.length : Int) > 30) = false := by simp; omega
  have t3 : decide (at' < -1000000) = false := by simp; omega
  have t4 : decide (at' > 1000000) = false := by simp; omega
  have CP : Hid (∀ w1, Below w.heap.size w w1 → Calls Tryz.prog 5 #[.slice A1 l.length c1, .slice A2 v.length c2] w1 fun e w' => ProgPost w1 30 e w') := fun w1 hb => program_c A1 A2 c1 c2 l v w1 (L4.below hl hb) (U4.below hv hb) q2
  have HQ : Hid (-1000000 ≤ at' ∧ at' ≤ 1000000 ∧ raw.length ≤ 20) := ⟨q3, q4, q1⟩
  have HR : Hid (cdOf w (.slice A0 raw.length c0)) := ⟨raw, A0, c0, rfl, fun w' hb => ⟨by omega, fun i h hi => ⟨(hraw i h hi).1, by
    obtain ⟨b, o, h1, h2⟩ := (hraw i h hi).2
    exact ⟨b, o, h1, h2.below hb h2.lt⟩⟩⟩, hra⟩
  clear q1 q2 q3 q4 hl hv hraw hra
  obtain ⟨i0, hi0, hz0, hz1, hz2⟩ := ho_info
  go_enter Tryz.func3, Tryz.ntmps3
  go_wp2_with (first
    | (go_at_call 4; refine (CK.out _).mono ?_; rintro e w2 ⟨rfl, hb2⟩; have HB2 : Hid _ := hb2; clear hb2)
    | (go_at_call 5; refine (CP.out _ HB2.out).mono ?_; rintro e W1 ⟨C, A, cc, base, r, rfl, hCl, hCo, hr, hRow, hb1, hb3, hBW⟩; have S := SH.start W1; have HRW : Hid (HRow W1 base (.slice A C.length cc) C ∧ w2.heap.size ≤ base ∧ base ≤ W1.heap.size ∧ okC C ∧ C.length ≤ 30) := ⟨hRow, hb1, hb3, hCo, hCl⟩; have HBW : Hid (Below w.heap.size w W1) := bthru HB2.out hBW; have hr32 : r.length = 32 := hr.1; have HOK : Hid (okR r) := hr; clear hRow hb1 hb3 hBW hCo hr hCl)
    | ((with_reducible refine wpl_is ?_); first
      | (refine SH.alloc (L := []) S rfl 27 rfl _ zeroRegs ?_; clear S; intro b14 w14 S)
      | (refine S.storeAll rfl 27 _ _ rfl _ (Cel.regs r) rfl rfl 0 _ rfl (by rw [regs_length hr32, regs_length (by simp [zR])]) one_regs (by rw [regs_length hr32]; exact szRegs) ?_; clear S; intro w15 S; simp only [List.set_cons_zero, List.set_cons_succ] at S)
      | (refine S.sliceAny rfl 22 1 _ rfl (Cel.host mExit).cells 31 (by kernel_rfl) ?_; clear S; intro g53 w16 S)
      | (refine S.sliceAny rfl 32 3 _ rfl [.slice A0 raw.length c0, .slice A C.length cc, .slice (some ⟨gn, 0, none⟩) (C.length + 1) capn] 22 (by kernel_rfl) ?_; clear S; intro g55 w18 S))
    | (at_builtin; refine wpList_append_keeps rfl _ _ 22 rfl base 31 i0 (Cel.host noHV).val 6 48 Tryz.underlying22 hi0 hz0 hz1 hz2 rfl (by decide) (.slice A C.length cc) C.length (codeC C) rfl (HRW.out.1.kept fun g hg => S.low.block g (World.ownsRow.lt HRW.out.1 g hg).2) ⟨g53, 0, none⟩ 1 1 (Cel.host mExit).cells rfl rfl (fun j u h => by rw [Addr.add_lit, Nat.zero_add]; exact ((S.at (i := 0) rfl).1.cell j).trans h) (one_host _) (by have := HRW.out.2.2.2.2; simp only [maxLen]; omega) (by have := HRW.out.2.2.2.2; omega) (Nat.le_trans HRW.out.2.2.1 S.mid.size) ?_; intro vn w17 hown hgr hk; obtain ⟨gn, capn, rfl, _⟩ := World.ownsRow.form hown (by omega); have HX : Hid _ := app_facts HRW.out HB2.out.size HBW.out S HR.out hown hgr hk; clear S hown hgr hk HR HRW HBW HB2 CP CK; have S := SH.start w17))
  have HW : Hid (Below w.heap.size w w18 ∧ Blk w18 b14 (Cel.regs r).cells ∧ cdOf w18 (.slice A0 raw.length c0) ∧ cdOf w18 (.slice A C.length cc) ∧ cdOf w18 (.slice (some ⟨gn, 0, none⟩) (C.length + 1) capn) ∧ Blk w18 g55 [.slice A0 raw.length c0, .slice A C.length cc, .slice (some ⟨gn, 0, none⟩) (C.length + 1) capn]) :=
    ⟨bthru HX.out.1 S.low, HX.out.2.1.below S.low, HX.out.2.2.1.mono S.low, HX.out.2.2.2.1.mono S.low, HX.out.2.2.2.2.mono S.low, (S.at (i := 0) rfl).1⟩
  clear S HX hi0 hz0 hz1 hz2
  obtain ⟨mm, hmm, hm3⟩ : ∃ mm : Int, mm = (if 300 < most then 300 else most) ∧ mm ≤ 300 := ⟨_, rfl, by split <;> omega⟩
  have HMM : Hid (mm = (if 300 < most then 300 else most)) := hmm
  clear hmm
  go_loopw [57] (fun i wr => (∃ j : Nat, j ≤ 3 ∧ i = .int .i64 (j : Nat)) ∧ Below w18.heap.size w18 wr) (fun i _ => 3 - (intOf i).toNat)
  case atStart => exact ⟨⟨0, by decide, rfl⟩, Below.refl _ _⟩
  case round =>
    obtain ⟨⟨j, hj3, rfl⟩, hb⟩ := hrel
    obtain ⟨wO, rfl⟩ : ∃ x, x = wr := ⟨wr, rfl⟩
    have HBO : Hid (Below w18.heap.size w18 wO) := hb
    clear hb
    by_cases hj : j < 3
    · have hj' : (j : Int) < 3 := by omega
      obtain ⟨vc, hvc, hcd⟩ : ∃ vc, ([.slice A0 raw.length c0, .slice A C.length cc, .slice (some ⟨gn, 0, none⟩) (C.length + 1) capn] : List Value)[j]? = some vc ∧ cdOf w18 vc := by
        rcases (show j = 0 ∨ j = 1 ∨ j = 2 by omega) with rfl | rfl | rfl
        · exact ⟨_, rfl, HW.out.2.2.1⟩
        · exact ⟨_, rfl, HW.out.2.2.2.1⟩
        · exact ⟨_, rfl, HW.out.2.2.2.2.1⟩
      obtain ⟨code, Ac, cn, rfl, hCL, hCA⟩ := hcd
      have HCL : Hid (∀ w', Below w18.heap.size w18 w' → CL w' Ac code) := hCL
      have HCA : Hid (∀ b o, Ac = some ⟨b, o, none⟩ → code = [] ∨ b < w18.heap.size) := hCA
      have HJ : Hid (wO.cell? ⟨g55, j, none⟩ = some (.slice Ac code.length cn)) := ((HW.out.2.2.2.2.2.below HBO.out).cell j).trans hvc
      clear hvc hCL hCA
      have S := SH.start wO
      go_wp2_with (first
        | ((with_reducible refine wpl_isDst 60 ?_); refine wpl_cl 22 _ rfl g55 j rfl (.slice Ac code.length cn) HJ.out _ Tryz.underlying22 rfl rfl ?_)
        | ((with_reducible refine wpl_isDst 62 ?_); refine wpl_dst 62 rfl (.int .i64 mm) (by rw [HMM.out]; kernel_rfl) rfl ?_)
        | ((with_reducible refine wpl_isDst 63 ?_); refine SH.sliceAny (L := []) S rfl 33 2 _ rfl [.int .i64 mm, .int .i64 100] 3 (by kernel_rfl) ?_; clear S; intro g63 w63 S))
      have HI : Hid (Below w18.heap.size w18 w63 ∧ Blk w63 g63 [.int .i64 mm, .int .i64 100]) := ⟨bthru HBO.out S.low, (S.at (i := 0) rfl).1⟩
      clear S
      go_loopw [65] (fun i wq => (∃ n : Nat, n ≤ 2 ∧ i = .int .i64 (n : Nat)) ∧ Below w63.heap.size w63 wq) (fun i _ => 2 - (intOf i).toNat)
      case atStart => exact ⟨⟨0, by decide, rfl⟩, Below.refl _ _⟩
      case round =>
        obtain ⟨⟨n, hn2, rfl⟩, hb⟩ := hrel
        obtain ⟨wI, rfl⟩ : ∃ x, x = wr := ⟨wr, rfl⟩
        have HBI : Hid (Below w63.heap.size w63 wI) := hb
        clear hb
        by_cases hn : n < 2
        · have hn' : (n : Int) < 2 := by omega
          obtain ⟨kk, hkk, hk3⟩ : ∃ kk : Int, ([.int .i64 mm, .int .i64 100] : List Value)[n]? = some (.int .i64 kk) ∧ kk ≤ 300 := by
            rcases (show n = 0 ∨ n = 1 by omega) with rfl | rfl
            · exact ⟨mm, rfl, hm3⟩
            · exact ⟨100, rfl, by decide⟩
          have HK : Hid (wI.cell? ⟨g63, n, none⟩ = some (.int .i64 kk)) := ((HI.out.2.below HBI.out).cell n).trans hkk
          have HWI : Hid (Below w18.heap.size w18 wI) := bthru HI.out.1 HBI.out
          clear hkk
          have S := SH.start wI
          go_upto_region 14 with (first
            | ((with_reducible refine wpl_isDst 68 ?_); refine wpl_cl 3 _ rfl g63 n rfl (.int .i64 kk) HK.out _ Tryz.underlying3 rfl rfl ?_)
            | ((with_reducible refine wpl_is ?_); first
              | (refine S.sliceAny rfl 40 3 _ rfl (cb [9, 8, 7]) 5 (by kernel_rfl) ?_; clear S; intro g w70 S)
              | (refine S.sliceAny rfl 40 5 _ rfl (cb [1, 2, 3, 4, 5]) 5 (by kernel_rfl) ?_; clear S; intro g w70 S)
              | (refine S.sliceAny rfl 40 2 _ rfl (cb [6, 7]) 5 (by kernel_rfl) ?_; clear S; intro g w70 S))
            | (go_at_call 7; refine S.seat.mono ?_; rintro e ws ⟨rfl, hRL, hbs⟩; have HRL := hidRL hRL; have HBS : Hid _ := hbs; clear hRL hbs S)
            | (go_at_call 6; refine (new_ok _ seatB seatG _ _ HRL.out (fun b h => h.2) seatC seatL).mono ?_; rintro e w3 ⟨pm, qm, rfl, hM, hb3⟩; obtain ⟨lo1, hi1, HM⟩ : ∃ lo1 hi1 : Nat, Hid (MemAt w3 pm 0 lo1 hi1 seatB seatG (initD seatB seatG) qm ∧ wI.heap.size ≤ lo1 ∧ hi1 = w3.heap.size ∧ lo1 ≤ hi1 ∧ Below wI.heap.size wI w3) := ⟨_, _, hM, HBS.out.size, rfl, hb3.size, bthru HBS.out hb3⟩; clear hM hb3 HRL HBS; have S := SH.start w3)
            | (go_at_call 8; refine (rnew_ok _ seatB seatG ws.heap.size _ (HRL.out.mono fun b h => h.2) (Nat.le_refl _) seatC).mono ?_; rintro e w6 ⟨p2, q2, rfl, hM, hb6, hv2⟩; obtain ⟨lo2, hi2, HN⟩ : ∃ lo2 hi2 : Nat, Hid (MemAt w6 p2 lo2 lo2 hi2 seatB seatG (initD seatB seatG) q2 ∧ (∃ v, w6.cell? ⟨p2, 0, none⟩ = some v ∧ RL w6 (fun b => hi1 ≤ b ∧ b < lo2) v seatB seatG) ∧ hi1 ≤ lo2 ∧ lo2 ≤ hi2 ∧ hi2 = w6.heap.size ∧ Below w3.heap.size w3 w6) := ⟨_, _, hM, ⟨_, hv2, (HRL.out.below hb6).mono fun b h => ⟨by rw [HM.out.2.2.1]; exact h.1, h.2⟩⟩, by rw [HM.out.2.2.1]; exact HBS.out.size, hb6.size, rfl, bthru HBS.out hb6⟩; clear hM hb6 hv2 HRL HBS))
          obtain ⟨D0, hD0⟩ : ∃ D0, initD seatB seatG = D0 := ⟨_, rfl⟩
          have HSC : Hid (checkS (regAt seatB) seatB.length = 0 ∧ seatB.length ≤ 10 ∧ (∀ g ∈ seatG, g.length ≤ 65536)) := ⟨seatC, by decide, seatL⟩
          obtain ⟨Bs, hBs⟩ : ∃ Bs, seatB = Bs := ⟨_, rfl⟩
          obtain ⟨G, hG⟩ : ∃ G, seatG = G := ⟨_, rfl⟩
          rw [hD0, hBs, hG] at HM HN
          rw [hBs, hG] at HSC
          clear hD0 hBs hG
          cases nn
          · skip
            have HB6 : Hid (Below w18.heap.size w18 w6) := bthru (bthru HWI.out HM.out.2.2.2.2) HN.out.2.2.2.2.2
            have HB63 : Hid (Below w63.heap.size w63 w6) := bthru (bthru HBI.out HM.out.2.2.2.2) HN.out.2.2.2.2.2
            have HLO : Hid (w18.heap.size ≤ lo1 ∧ lo1 ≤ w6.heap.size ∧ w63.heap.size ≤ lo1) := by
              have h1 := HWI.out.size
              have h2 := HM.out.2.1
              have h3 := HM.out.2.2.2.1
              have h4 := HN.out.2.2.1
              have h5 := HN.out.2.2.2.1
              have h6 := HN.out.2.2.2.2.1
              have h7 := HBI.out.size
              exact ⟨by omega, by omega, by omega⟩
            have HNN : Hid (hi1 ≤ lo2 ∧ lo2 ≤ hi2 ∧ hi2 = w6.heap.size ∧ lo1 ≤ hi1 ∧ hi1 ≤ hi2 ∧ lo1 ≤ lo2) := by
              have h3 := HM.out.2.2.2.1
              have h4 := HN.out.2.2.1
              have h5 := HN.out.2.2.2.1
              exact ⟨h4, h5, HN.out.2.2.2.2.1, h3, by omega, by omega⟩
            obtain ⟨fin, hfin⟩ : ∃ f, runS at' Bs code kk.toNat ⟨r, [], 0, D0⟩ = f := ⟨_, rfl⟩
            have HF : Hid (okE fin.1.E ∧ fin.1.E.length ≤ 100000) := by
              have h := run_okE at' Bs code kk.toNat ⟨r, [], 0, D0⟩ (fun e he => by cases he)
              rw [hfin] at h
              exact ⟨h.1, by have := h.2; simp only [List.length_nil] at this; omega⟩
            have HA1 : Hid (∀ b o, Ac = some ⟨b, o, none⟩ → code = [] ∨ b < lo1) := fun b o h => (HCA.out b o h).imp id fun q => Nat.lt_of_lt_of_le q HLO.out.1
            have C1 : Hid (Calls Tryz.prog 9 #[.slice Ac code.length cn, .int .i64 at', (Cel.regs r).val, .pointer (some ⟨pm, 0, none⟩), .int .i64 kk] w6 fun e w' => RunPost w6 pm 0 lo1 hi1 Bs G qm fin e w') := run_given code Ac cn at' kk r w6 (HM.out.1.below HN.out.2.2.2.2.2) (Nat.zero_le _) (HCL.out _ HB6.out) (fun b o h => (HA1.out b o h).imp id .inl) HOK.out HQ.out.1 HQ.out.2.1 (by omega) fin hfin
            have C2 : Hid (∀ w8, MemAt w8 p2 lo2 lo2 hi2 Bs G D0 q2 → lo2 ≤ w8.heap.size → CL w8 Ac code → Calls Tryz.prog 10 #[.slice Ac code.length cn, .int .i64 at', (Cel.regs r).val, .pointer (some ⟨p2, 0, none⟩), .int .i64 kk] w8 fun e w' => RunPost w8 p2 lo2 lo2 hi2 Bs G q2 fin e w') := fun w8 h1 h2 h3 => rrunA_c code Ac cn at' kk r w8 h1 h2 HSC.out.2.1 h3 (fun b o h => (HA1.out b o h).imp id fun q => .inl (Nat.lt_of_lt_of_le q HNN.out.2.2.2.2.2)) HOK.out HQ.out.1 HQ.out.2.1 (by omega) fin hfin
            have S : SH (tZ lo1 hi2 (fun _ => False) (J0 pm lo1 hi1 Bs G D0 qm p2 lo2 lo2 hi2 Bs G D0 q2)) w6 w6 [] := SH.startT w6 (stb_J0 HNN.out.2.2.2.2.1 HNN.out.2.1) ⟨HM.out.1.below HN.out.2.2.2.2.2, HN.out.1⟩ (Nat.le_of_eq HNN.out.2.2.1)
            clear hfin
            go_upto_region 18 with (first
              | ((with_reducible refine wpl_isDst 90 ?_); refine wpl_blk 27 _ rfl b14 rfl (Cel.regs r) (HW.out.2.1.below (S.lowT HB6.out HLO.out.1 HLO.out.2.1)) _ Tryz.underlying27 rfl (by rw [regs_length hr32]; exact szRegs) rfl ?_)
              | ((with_reducible refine wpl_isDst 96 ?_); refine wpl_blk 27 _ rfl b14 rfl (Cel.regs r) (HW.out.2.1.below (S.lowT HB6.out HLO.out.1 HLO.out.2.1)) _ Tryz.underlying27 rfl (by rw [regs_length hr32]; exact szRegs) rfl ?_)
              | (go_at_call 9; refine Calls.mono C1.out ?_; rintro e w7 ⟨Ax, cx, bx, rfl, hev, hb1, _, hM7, hmid, hokf⟩; have hf32 : fin.1.R.length = 32 := hokf.1; have HBX : Hid (hi2 ≤ bx) := HNN.out.2.2.1 ▸ hb1; obtain ⟨vv, hv1, hv2⟩ := HN.out.2.1; replace S := S.runX HNN.out.2.2.2.2.1 HNN.out.2.1 hmid hM7 (HN.out.1.refit hv1 hv2 (fun b h => ⟨h.2, h.2⟩) (fun b h hlt => hmid.block b hlt (.inr (by rcases h with h | h; exact h.1; exact Nat.le_trans HNN.out.1 h.1))) hmid.size) hev hb1; clear hev hb1 hM7 hmid hokf hv1 hv2 C1)
              | (go_at_call 10; refine (C2.out _ S.inv.1.2 (Nat.le_trans (Nat.le_trans HNN.out.2.1 (Nat.le_of_eq HNN.out.2.2.1)) S.mid.size) (HCL.out _ (S.lowT HB6.out HLO.out.1 HLO.out.2.1))).mono ?_; rintro e w9 ⟨Ay, cy, by', rfl, hev, hb1, _, hM9, hmid, _⟩; replace S := S.runY HNN.out.1 HNN.out.2.1 HNN.out.2.1 HNN.out.2.2.2.2.2 hmid HBX.out hM9 hev hb1; clear hev hb1 hM9 hmid C2)
              | ((with_reducible refine wpl_is ?_); first
                | (refine S.alloc rfl 49 rfl _ zeroRes ?_; clear S; intro b23 wx S)
                | (refine S.storeAll rfl 49 _ _ rfl b23 (Cel.res fin.1.R _ _ _) rfl rfl 0 _ rfl (by rw [res_length hf32, res_length (by simp)]) (one_res rfl) (by rw [res_length hf32]; exact szRes) ?_; clear S; intro wy S; simp only [List.set_cons_zero, List.set_cons_succ] at S)
                | (refine S.alloc rfl 52 rfl _ zeroRef ?_; clear S; intro b24 wx S)
                | (refine S.storeAll rfl 52 _ _ rfl b24 (Cel.res fin.1.R _ _ _) rfl rfl 0 _ rfl (by rw [res_length hf32, res_length (by simp)]) (one_res rfl) (by rw [res_length hf32]; exact szRef) ?_; clear S; intro wy S; simp only [List.set_cons_zero, List.set_cons_succ] at S)))
            replace S : SH (tZ lo1 hi2 _ _) w6 _ [(b24, Cel.res fin.1.R (.slice Ay fin.1.E.length cy) fin.2 fin.1.p), (b23, Cel.res fin.1.R (.slice Ax fin.1.E.length cx) fin.2 fin.1.p)] := S
            refine wp_region_held_drew (S := fun w' => SH (tZ lo1 hi2 (fun k => (Value.slice Ax fin.1.E.length cx).ownBlock = some k ∨ (Value.slice Ay fin.1.E.length cy).ownBlock = some k) (fun w => J0 pm lo1 hi1 Bs G fin.1.D qm p2 lo2 lo2 hi2 Bs G fin.1.D q2 w ∧ (EvRow w bx (.slice Ax fin.1.E.length cx) fin.1.E ∧ EvRow w by' (.slice Ay fin.1.E.length cy) fin.1.E))) w6 w' [(b24, Cel.res fin.1.R (.slice Ay fin.1.E.length cy) fin.2 fin.1.p), (b23, Cel.res fin.1.R (.slice Ax fin.1.E.length cx) fin.2 fin.1.p)]) (by kernel_rfl) (by first | exact S.drew | exact S.drew.dropR) (fun _ => ?_)
            replace S := S.drew
            refine wpAnyH_take (i := 0) (oi := { dst := some 100, op := Op.fieldAddr 49 (Operand.tmp 23) 0, type := 0, pos := "law.go:86", after := #[], guard := none }) (v := ?_) rfl (by kernel_rfl) (by kernel_rfl) (by kernel_rfl) (fun _ _ _ h => h) (Or.inl ⟨by rfl, ?_⟩) (by exact S) ?_
            rotate_left 1
            · intro w hSw
              clear hSw
              go_simp
              try with_reducible rfl
            simp only [Act.put, List.setIfInBounds_toArray, List.set_cons_zero, List.set_cons_succ]
            refine wpAnyH_take (i := 1) (oi := { dst := some 101, op := Op.load 27 (Operand.tmp 100), type := 27, pos := "law.go:86", after := #[{ on := 0, ground := Ground.data }], guard := none }) (v := _) rfl (by kernel_rfl) (by kernel_rfl) (by kernel_rfl) (fun _ _ _ h => h) (y_loadRegs (by rfl) _ _ rfl _ rfl 1 _ _ _ _ rfl _ Tryz.underlying27 rfl (by rw [rc_length, hf32]; exact szRegs)) (by exact S) ?_
            simp only [Act.put, List.setIfInBounds_toArray, List.set_cons_zero, List.set_cons_succ]
            refine wpAnyH_take (i := 2) (oi := { dst := some 102, op := Op.fieldAddr 52 (Operand.tmp 24) 0, type := 0, pos := "law.go:86", after := #[], guard := none }) (v := ?_) rfl (by kernel_rfl) (by kernel_rfl) (by kernel_rfl) (fun _ _ _ h => h) (Or.inl ⟨by rfl, ?_⟩) (by exact S) ?_
            rotate_left 1
            · intro w hSw
              clear hSw
              go_simp
              try with_reducible rfl
            simp only [Act.put, List.setIfInBounds_toArray, List.set_cons_zero, List.set_cons_succ]
            refine wpAnyH_take (i := 3) (oi := { dst := some 103, op := Op.load 27 (Operand.tmp 102), type := 27, pos := "law.go:86", after := #[{ on := 2, ground := Ground.data }], guard := none }) (v := _) rfl (by kernel_rfl) (by kernel_rfl) (by kernel_rfl) (fun _ _ _ h => h) (y_loadRegs (by rfl) _ _ rfl _ rfl 0 _ _ _ _ rfl _ Tryz.underlying27 rfl (by rw [rc_length, hf32]; exact szRegs)) (by exact S) ?_
            simp only [Act.put, List.setIfInBounds_toArray, List.set_cons_zero, List.set_cons_succ]
            refine wpAnyH_take (i := 4) (oi := { dst := some 104, op := Op.binOp BinOp.neq 27 (Operand.tmp 101) (Operand.tmp 103) 27, type := 4, pos := "law.go:86", after := #[{ on := 1, ground := Ground.data }, { on := 3, ground := Ground.data }], guard := none }) (v := _) rfl (by kernel_rfl) (by kernel_rfl) (by kernel_rfl) (fun _ _ _ h => h) (.inl ⟨by rfl, fun w _ => neq_run hf32 rfl rfl rfl⟩) (by exact S) ?_
            simp only [Act.put, List.setIfInBounds_toArray, List.set_cons_zero, List.set_cons_succ]
            refine wpAnyH_take (i := 5) (oi := { dst := some 105, op := Op.move (Operand.tmp 104), type := 4, pos := "law.go:86", after := #[{ on := 4, ground := Ground.data }], guard := none }) (v := ?_) rfl (by kernel_rfl) (by kernel_rfl) (by kernel_rfl) (fun _ _ _ h => h) (Or.inl ⟨by rfl, ?_⟩) (by exact S) ?_
            rotate_left 1
            · intro w hSw
              clear hSw
              go_simp
              try with_reducible rfl
            simp only [Act.put, List.setIfInBounds_toArray, List.set_cons_zero, List.set_cons_succ]
            refine wpAnyH_take (i := 6) (oi := { dst := some 106, op := Op.fieldAddr 49 (Operand.tmp 23) 2, type := 0, pos := "law.go:86", after := #[{ on := 5, ground := Ground.guard }], guard := some (5, false) }) (v := ?_) rfl (by kernel_rfl) (by kernel_rfl) (by kernel_rfl) (fun _ _ _ h => h) (Or.inl ⟨by rfl, ?_⟩) (by exact S) ?_
            rotate_left 1
            · intro w hSw
              clear hSw
              go_simp
              try with_reducible rfl
            simp only [Act.put, List.setIfInBounds_toArray, List.set_cons_zero, List.set_cons_succ]
            refine wpAnyH_take (i := 7) (oi := { dst := some 107, op := Op.load 35 (Operand.tmp 106), type := 35, pos := "law.go:86", after := #[{ on := 6, ground := Ground.data }, { on := 5, ground := Ground.guard }], guard := some (5, false) }) (v := _) rfl (by kernel_rfl) (by kernel_rfl) (by kernel_rfl) (fun _ _ _ h => h) (y_load1 (by rfl) _ _ rfl _ _ rfl 1 _ rfl _ (res_33 hf32 _ _ _) _ Tryz.underlying35 rfl) (by exact S) ?_
            simp only [Act.put, List.setIfInBounds_toArray, List.set_cons_zero, List.set_cons_succ]
            refine wpAnyH_take (i := 8) (oi := { dst := some 108, op := Op.fieldAddr 52 (Operand.tmp 24) 2, type := 0, pos := "law.go:86", after := #[{ on := 5, ground := Ground.guard }], guard := some (5, false) }) (v := ?_) rfl (by kernel_rfl) (by kernel_rfl) (by kernel_rfl) (fun _ _ _ h => h) (Or.inl ⟨by rfl, ?_⟩) (by exact S) ?_
            rotate_left 1
            · intro w hSw
              clear hSw
              go_simp
              try with_reducible rfl
            simp only [Act.put, List.setIfInBounds_toArray, List.set_cons_zero, List.set_cons_succ]
            refine wpAnyH_take (i := 9) (oi := { dst := some 109, op := Op.load 3 (Operand.tmp 108), type := 3, pos := "law.go:86", after := #[{ on := 8, ground := Ground.data }, { on := 5, ground := Ground.guard }], guard := some (5, false) }) (v := _) rfl (by kernel_rfl) (by kernel_rfl) (by kernel_rfl) (fun _ _ _ h => h) (y_load1 (by rfl) _ _ rfl _ _ rfl 0 _ rfl _ (res_33 hf32 _ _ _) _ Tryz.underlying3 rfl) (by exact S) ?_
            simp only [Act.put, List.setIfInBounds_toArray, List.set_cons_zero, List.set_cons_succ]
            refine wpAnyH_take (i := 10) (oi := { dst := some 110, op := Op.binOp BinOp.neq 3 (Operand.tmp 107) (Operand.tmp 109) 3, type := 4, pos := "law.go:86", after := #[{ on := 7, ground := Ground.data }, { on := 9, ground := Ground.data }, { on := 5, ground := Ground.guard }], guard := some (5, false) }) (v := ?_) rfl (by kernel_rfl) (by kernel_rfl) (by kernel_rfl) (fun _ _ _ h => h) (Or.inl ⟨by rfl, ?_⟩) (by exact S) ?_
            rotate_left 1
            · intro w hSw
              clear hSw
              go_simp
              try with_reducible rfl
            simp only [Act.put, List.setIfInBounds_toArray, List.set_cons_zero, List.set_cons_succ]
            refine wpAnyH_take (i := 11) (oi := { dst := some 111, op := Op.pick (Operand.tmp 105) (Operand.const (Value.bool true)) (Operand.tmp 110), type := 4, pos := "law.go:86", after := #[{ on := 5, ground := Ground.data }, { on := 10, ground := Ground.data }], guard := none }) (v := ?_) rfl (by kernel_rfl) (by kernel_rfl) (by kernel_rfl) (fun _ _ _ h => h) (Or.inl ⟨by rfl, ?_⟩) (by exact S) ?_
            rotate_left 1
            · intro w hSw
              clear hSw
              go_simp
              try with_reducible rfl
            simp only [Act.put, List.setIfInBounds_toArray, List.set_cons_zero, List.set_cons_succ]
            refine wpAnyH_take (i := 12) (oi := { dst := some 112, op := Op.move (Operand.tmp 111), type := 4, pos := "law.go:86", after := #[{ on := 11, ground := Ground.data }, { on := 5, ground := Ground.chain }], guard := none }) (v := ?_) rfl (by kernel_rfl) (by kernel_rfl) (by kernel_rfl) (fun _ _ _ h => h) (Or.inl ⟨by rfl, ?_⟩) (by exact S) ?_
            rotate_left 1
            · intro w hSw
              clear hSw
              go_simp
              try with_reducible rfl
            simp only [Act.put, List.setIfInBounds_toArray, List.set_cons_zero, List.set_cons_succ]
            refine wpAnyH_take (i := 13) (oi := { dst := some 113, op := Op.fieldAddr 49 (Operand.tmp 23) 3, type := 0, pos := "law.go:86", after := #[{ on := 12, ground := Ground.guard }], guard := some (12, false) }) (v := ?_) rfl (by kernel_rfl) (by kernel_rfl) (by kernel_rfl) (fun _ _ _ h => h) (Or.inl ⟨by rfl, ?_⟩) (by exact S) ?_
            rotate_left 1
            · intro w hSw
              clear hSw
              go_simp
              try with_reducible rfl
            simp only [Act.put, List.setIfInBounds_toArray, List.set_cons_zero, List.set_cons_succ]
            refine wpAnyH_take (i := 14) (oi := { dst := some 114, op := Op.load 3 (Operand.tmp 113), type := 3, pos := "law.go:86", after := #[{ on := 13, ground := Ground.data }, { on := 12, ground := Ground.guard }], guard := some (12, false) }) (v := _) rfl (by kernel_rfl) (by kernel_rfl) (by kernel_rfl) (fun _ _ _ h => h) (y_load1 (by rfl) _ _ rfl _ _ rfl 1 _ rfl _ (res_34 hf32 _ _ _) _ Tryz.underlying3 rfl) (by exact S) ?_
            simp only [Act.put, List.setIfInBounds_toArray, List.set_cons_zero, List.set_cons_succ]
            refine wpAnyH_take (i := 15) (oi := { dst := some 115, op := Op.fieldAddr 52 (Operand.tmp 24) 3, type := 0, pos := "law.go:86", after := #[{ on := 12, ground := Ground.guard }], guard := some (12, false) }) (v := ?_) rfl (by kernel_rfl) (by kernel_rfl) (by kernel_rfl) (fun _ _ _ h => h) (Or.inl ⟨by rfl, ?_⟩) (by exact S) ?_
            rotate_left 1
            · intro w hSw
              clear hSw
              go_simp
              try with_reducible rfl
            simp only [Act.put, List.setIfInBounds_toArray, List.set_cons_zero, List.set_cons_succ]
            refine wpAnyH_take (i := 16) (oi := { dst := some 116, op := Op.load 3 (Operand.tmp 115), type := 3, pos := "law.go:86", after := #[{ on := 15, ground := Ground.data }, { on := 12, ground := Ground.guard }], guard := some (12, false) }) (v := _) rfl (by kernel_rfl) (by kernel_rfl) (by kernel_rfl) (fun _ _ _ h => h) (y_load1 (by rfl) _ _ rfl _ _ rfl 0 _ rfl _ (res_34 hf32 _ _ _) _ Tryz.underlying3 rfl) (by exact S) ?_
            simp only [Act.put, List.setIfInBounds_toArray, List.set_cons_zero, List.set_cons_succ]
            refine wpAnyH_take (i := 17) (oi := { dst := some 117, op := Op.binOp BinOp.neq 3 (Operand.tmp 114) (Operand.tmp 116) 3, type := 4, pos := "law.go:86", after := #[{ on := 14, ground := Ground.data }, { on := 16, ground := Ground.data }, { on := 12, ground := Ground.guard }], guard := some (12, false) }) (v := ?_) rfl (by kernel_rfl) (by kernel_rfl) (by kernel_rfl) (fun _ _ _ h => h) (Or.inl ⟨by rfl, ?_⟩) (by exact S) ?_
            rotate_left 1
            · intro w hSw
              clear hSw
              go_simp
              try with_reducible rfl
            simp only [Act.put, List.setIfInBounds_toArray, List.set_cons_zero, List.set_cons_succ]
            refine wpAnyH_take (i := 18) (oi := { dst := some 118, op := Op.pick (Operand.tmp 112) (Operand.const (Value.bool true)) (Operand.tmp 117), type := 4, pos := "law.go:86", after := #[{ on := 12, ground := Ground.data }, { on := 17, ground := Ground.data }], guard := none }) (v := ?_) rfl (by kernel_rfl) (by kernel_rfl) (by kernel_rfl) (fun _ _ _ h => h) (Or.inl ⟨by rfl, ?_⟩) (by exact S) ?_
            rotate_left 1
            · intro w hSw
              clear hSw
              go_simp
              try with_reducible rfl
            simp only [Act.put, List.setIfInBounds_toArray, List.set_cons_zero, List.set_cons_succ]
            refine wpAnyH_take (i := 19) (oi := { dst := some 119, op := Op.move (Operand.tmp 118), type := 4, pos := "law.go:86", after := #[{ on := 18, ground := Ground.data }, { on := 12, ground := Ground.chain }], guard := none }) (v := ?_) rfl (by kernel_rfl) (by kernel_rfl) (by kernel_rfl) (fun _ _ _ h => h) (Or.inl ⟨by rfl, ?_⟩) (by exact S) ?_
            rotate_left 1
            · intro w hSw
              clear hSw
              go_simp
              try with_reducible rfl
            simp only [Act.put, List.setIfInBounds_toArray, List.set_cons_zero, List.set_cons_succ]
            refine wpAnyH_take (i := 20) (oi := { dst := some 120, op := Op.fieldAddr 49 (Operand.tmp 23) 1, type := 0, pos := "law.go:86", after := #[{ on := 19, ground := Ground.guard }], guard := some (19, false) }) (v := ?_) rfl (by kernel_rfl) (by kernel_rfl) (by kernel_rfl) (fun _ _ _ h => h) (Or.inl ⟨by rfl, ?_⟩) (by exact S) ?_
            rotate_left 1
            · intro w hSw
              clear hSw
              go_simp
              try with_reducible rfl
            simp only [Act.put, List.setIfInBounds_toArray, List.set_cons_zero, List.set_cons_succ]
            refine wpAnyH_take (i := 21) (oi := { dst := some 121, op := Op.load 47 (Operand.tmp 120), type := 47, pos := "law.go:86", after := #[{ on := 20, ground := Ground.data }, { on := 19, ground := Ground.guard }], guard := some (19, false) }) (v := _) rfl (by kernel_rfl) (by kernel_rfl) (by kernel_rfl) (fun _ _ _ h => h) (y_load1 (by rfl) _ _ rfl _ _ rfl 1 _ rfl _ (res_32 hf32 _ _ _) _ Tryz.underlying47 rfl) (by exact S) ?_
            simp only [Act.put, List.setIfInBounds_toArray, List.set_cons_zero, List.set_cons_succ]
            refine wpAnyH_take (i := 22) (oi := { dst := some 122, op := Op.fieldAddr 52 (Operand.tmp 24) 1, type := 0, pos := "law.go:86", after := #[{ on := 19, ground := Ground.guard }], guard := some (19, false) }) (v := ?_) rfl (by kernel_rfl) (by kernel_rfl) (by kernel_rfl) (fun _ _ _ h => h) (Or.inl ⟨by rfl, ?_⟩) (by exact S) ?_
            rotate_left 1
            · intro w hSw
              clear hSw
              go_simp
              try with_reducible rfl
            simp only [Act.put, List.setIfInBounds_toArray, List.set_cons_zero, List.set_cons_succ]
            refine wpAnyH_take (i := 23) (oi := { dst := some 123, op := Op.load 47 (Operand.tmp 122), type := 47, pos := "law.go:86", after := #[{ on := 22, ground := Ground.data }, { on := 19, ground := Ground.guard }], guard := some (19, false) }) (v := _) rfl (by kernel_rfl) (by kernel_rfl) (by kernel_rfl) (fun _ _ _ h => h) (y_load1 (by rfl) _ _ rfl _ _ rfl 0 _ rfl _ (res_32 hf32 _ _ _) _ Tryz.underlying47 rfl) (by exact S) ?_
            simp only [Act.put, List.setIfInBounds_toArray, List.set_cons_zero, List.set_cons_succ]
            refine wpAnyH_ready (rs := [24]) (by kernel_rfl) (by simp) ?_
            refine AllReadyH.cons rfl (fun K hK => ?_) AllReadyH.nil
            go_simp
            go_wp2_with (go_at_call 11; refine (sev_c _ _ _ _ fin.1.E _ S.inv.2.1.at S.inv.2.2.at HF.out.2).mono ?_; rintro e wf ⟨rfl, hbf⟩; replace S := S.below hbf; clear hbf)
            refine hK.out _ _ (by exact S) (fun _ => ?_)
            clear hK K
            refine wpAnyH_take (i := 25) (oi := { dst := some 125, op := Op.unOp UnOp.not 4 (Operand.tmp 124), type := 4, pos := "law.go:86", after := #[{ on := 24, ground := Ground.data }, { on := 19, ground := Ground.guard }], guard := some (19, false) }) (v := ?_) rfl (by kernel_rfl) (by kernel_rfl) (by kernel_rfl) (fun _ _ _ h => h) (Or.inl ⟨by rfl, ?_⟩) (by exact S) ?_
            rotate_left 1
            · intro w hSw
              clear hSw
              go_simp
              try with_reducible rfl
            simp only [Act.put, List.setIfInBounds_toArray, List.set_cons_zero, List.set_cons_succ]
            refine wpAnyH_take (i := 26) (oi := { dst := some 126, op := Op.pick (Operand.tmp 119) (Operand.const (Value.bool true)) (Operand.tmp 125), type := 4, pos := "law.go:86", after := #[{ on := 19, ground := Ground.data }, { on := 25, ground := Ground.data }], guard := none }) (v := ?_) rfl (by kernel_rfl) (by kernel_rfl) (by kernel_rfl) (fun _ _ _ h => h) (Or.inl ⟨by rfl, ?_⟩) (by exact S) ?_
            rotate_left 1
            · intro w hSw
              clear hSw
              go_simp
              try with_reducible rfl
            simp only [Act.put, List.setIfInBounds_toArray, List.set_cons_zero, List.set_cons_succ]
            refine wpAnyH_take (i := 27) (oi := { dst := some 127, op := Op.move (Operand.tmp 126), type := 4, pos := "law.go:86", after := #[{ on := 26, ground := Ground.data }, { on := 24, ground := Ground.chain }], guard := none }) (v := ?_) rfl (by kernel_rfl) (by kernel_rfl) (by kernel_rfl) (fun _ _ _ h => h) (Or.inl ⟨by rfl, ?_⟩) (by exact S) ?_
            rotate_left 1
            · intro w hSw
              clear hSw
              go_simp
              try with_reducible rfl
            simp only [Act.put, List.setIfInBounds_toArray, List.set_cons_zero, List.set_cons_succ]
            refine wpAnyH_take (i := 28) (oi := { dst := some 128, op := Op.fieldAddr 49 (Operand.tmp 23) 1, type := 0, pos := "law.go:86", after := #[{ on := 27, ground := Ground.guard }], guard := some (27, false) }) (v := ?_) rfl (by kernel_rfl) (by kernel_rfl) (by kernel_rfl) (fun _ _ _ h => h) (Or.inl ⟨by rfl, ?_⟩) (by exact S) ?_
            rotate_left 1
            · intro w hSw
              clear hSw
              go_simp
              try with_reducible rfl
            simp only [Act.put, List.setIfInBounds_toArray, List.set_cons_zero, List.set_cons_succ]
            refine wpAnyH_take (i := 29) (oi := { dst := some 129, op := Op.load 47 (Operand.tmp 128), type := 47, pos := "law.go:86", after := #[{ on := 28, ground := Ground.data }, { on := 27, ground := Ground.guard }], guard := some (27, false) }) (v := _) rfl (by kernel_rfl) (by kernel_rfl) (by kernel_rfl) (fun _ _ _ h => h) (y_load1 (by rfl) _ _ rfl _ _ rfl 1 _ rfl _ (res_32 hf32 _ _ _) _ Tryz.underlying47 rfl) (by exact S) ?_
            simp only [Act.put, List.setIfInBounds_toArray, List.set_cons_zero, List.set_cons_succ]
            refine wpAnyH_take (i := 31) (oi := { dst := some 131, op := Op.fieldAddr 52 (Operand.tmp 24) 1, type := 0, pos := "law.go:86", after := #[{ on := 27, ground := Ground.guard }], guard := some (27, false) }) (v := ?_) rfl (by kernel_rfl) (by kernel_rfl) (by kernel_rfl) (fun _ _ _ h => h) (Or.inl ⟨by rfl, ?_⟩) (by exact S) ?_
            rotate_left 1
            · intro w hSw
              clear hSw
              go_simp
              try with_reducible rfl
            simp only [Act.put, List.setIfInBounds_toArray, List.set_cons_zero, List.set_cons_succ]
            refine wpAnyH_take (i := 32) (oi := { dst := some 132, op := Op.load 47 (Operand.tmp 131), type := 47, pos := "law.go:86", after := #[{ on := 31, ground := Ground.data }, { on := 27, ground := Ground.guard }], guard := some (27, false) }) (v := _) rfl (by kernel_rfl) (by kernel_rfl) (by kernel_rfl) (fun _ _ _ h => h) (y_load1 (by rfl) _ _ rfl _ _ rfl 0 _ rfl _ (res_32 hf32 _ _ _) _ Tryz.underlying47 rfl) (by exact S) ?_
            simp only [Act.put, List.setIfInBounds_toArray, List.set_cons_zero, List.set_cons_succ]
            refine wpAnyH_ready (rs := [30]) (by kernel_rfl) (by simp) ?_
            refine AllReadyH.cons rfl (fun K hK => ?_) AllReadyH.nil
            go_simp
            go_wp2_with (go_at_call 12; refine (total_c _ _ fin.1.E _ S.inv.2.1.at HF.out.1 HF.out.2).mono ?_; rintro e wf ⟨rfl, hbf⟩; replace S := S.below hbf; clear hbf)
            refine hK.out _ _ (by exact S) (fun _ => ?_)
            clear hK K
            refine wpAnyH_ready (rs := [33]) (by kernel_rfl) (by simp) ?_
            refine AllReadyH.cons rfl (fun K hK => ?_) AllReadyH.nil
            go_simp
            go_wp2_with (go_at_call 13; refine (rtotal_c _ _ fin.1.E _ S.inv.2.2.at HF.out.1 HF.out.2).mono ?_; rintro e wf ⟨rfl, hbf⟩; replace S := S.below hbf; clear hbf)
            refine hK.out _ _ (by exact S) (fun _ => ?_)
            clear hK K
            refine wpAnyH_take (i := 34) (oi := { dst := some 134, op := Op.binOp BinOp.neq 3 (Operand.tmp 130) (Operand.tmp 133) 3, type := 4, pos := "law.go:86", after := #[{ on := 30, ground := Ground.data }, { on := 33, ground := Ground.data }, { on := 27, ground := Ground.guard }], guard := some (27, false) }) (v := ?_) rfl (by kernel_rfl) (by kernel_rfl) (by kernel_rfl) (fun _ _ _ h => h) (Or.inl ⟨by rfl, ?_⟩) (by exact S) ?_
            rotate_left 1
            · intro w hSw
              clear hSw
              go_simp
              try with_reducible rfl
            simp only [Act.put, List.setIfInBounds_toArray, List.set_cons_zero, List.set_cons_succ]
            refine wpAnyH_take (i := 35) (oi := { dst := some 135, op := Op.pick (Operand.tmp 127) (Operand.const (Value.bool true)) (Operand.tmp 134), type := 4, pos := "law.go:86", after := #[{ on := 27, ground := Ground.data }, { on := 34, ground := Ground.data }], guard := none }) (v := ?_) rfl (by kernel_rfl) (by kernel_rfl) (by kernel_rfl) (fun _ _ _ h => h) (Or.inl ⟨by rfl, ?_⟩) (by exact S) ?_
            rotate_left 1
            · intro w hSw
              clear hSw
              go_simp
              try with_reducible rfl
            simp only [Act.put, List.setIfInBounds_toArray, List.set_cons_zero, List.set_cons_succ]
            refine wpAnyH_take (i := 36) (oi := { dst := some 136, op := Op.move (Operand.tmp 135), type := 4, pos := "law.go:86", after := #[{ on := 35, ground := Ground.data }, { on := 33, ground := Ground.chain }], guard := none }) (v := ?_) rfl (by kernel_rfl) (by kernel_rfl) (by kernel_rfl) (fun _ _ _ h => h) (Or.inl ⟨by rfl, ?_⟩) (by exact S) ?_
            rotate_left 1
            · intro w hSw
              clear hSw
              go_simp
              try with_reducible rfl
            simp only [Act.put, List.setIfInBounds_toArray, List.set_cons_zero, List.set_cons_succ]
            refine wpAnyH_take (i := 37) (oi := { dst := some 137, op := Op.move (Operand.tmp 5), type := 4, pos := "law.go:86", after := #[{ on := 36, ground := Ground.guard }], guard := some (36, false) }) (v := ?_) rfl (by kernel_rfl) (by kernel_rfl) (by kernel_rfl) (fun _ _ _ h => h) (Or.inl ⟨by rfl, ?_⟩) (by exact S) ?_
            rotate_left 1
            · intro w hSw
              clear hSw
              go_simp
              try with_reducible rfl
            simp only [Act.put, List.setIfInBounds_toArray, List.set_cons_zero, List.set_cons_succ]
            refine wpAnyH_take (i := 38) (oi := { dst := some 138, op := Op.unOp UnOp.not 4 (Operand.tmp 137), type := 4, pos := "law.go:86", after := #[{ on := 37, ground := Ground.data }, { on := 36, ground := Ground.guard }], guard := some (36, false) }) (v := ?_) rfl (by kernel_rfl) (by kernel_rfl) (by kernel_rfl) (fun _ _ _ h => h) (Or.inl ⟨by rfl, ?_⟩) (by exact S) ?_
            rotate_left 1
            · intro w hSw
              clear hSw
              go_simp
              try with_reducible rfl
            simp only [Act.put, List.setIfInBounds_toArray, List.set_cons_zero, List.set_cons_succ]
            refine wpAnyH_take (i := 39) (oi := { dst := some 139, op := Op.move (Operand.tmp 138), type := 4, pos := "law.go:86", after := #[{ on := 38, ground := Ground.data }, { on := 36, ground := Ground.chain }, { on := 36, ground := Ground.guard }], guard := some (36, false) }) (v := ?_) rfl (by kernel_rfl) (by kernel_rfl) (by kernel_rfl) (fun _ _ _ h => h) (Or.inl ⟨by rfl, ?_⟩) (by exact S) ?_
            rotate_left 1
            · intro w hSw
              clear hSw
              go_simp
              try with_reducible rfl
            simp only [Act.put, List.setIfInBounds_toArray, List.set_cons_zero, List.set_cons_succ]
            refine wpAnyH_take (i := 40) (oi := { dst := some 140, op := Op.move (Operand.tmp 19), type := 34, pos := "law.go:86", after := #[{ on := 39, ground := Ground.guard }], guard := some (39, true) }) (v := ?_) rfl (by kernel_rfl) (by kernel_rfl) (by kernel_rfl) (fun _ _ _ h => h) (Or.inl ⟨by rfl, ?_⟩) (by exact S) ?_
            rotate_left 1
            · intro w hSw
              clear hSw
              go_simp
              try with_reducible rfl
            simp only [Act.put, List.setIfInBounds_toArray, List.set_cons_zero, List.set_cons_succ]
            refine wpAnyH_take (i := 41) (oi := { dst := some 141, op := Op.move (Operand.tmp 21), type := 41, pos := "law.go:86", after := #[{ on := 39, ground := Ground.guard }], guard := some (39, true) }) (v := ?_) rfl (by kernel_rfl) (by kernel_rfl) (by kernel_rfl) (fun _ _ _ h => h) (Or.inl ⟨by rfl, ?_⟩) (by exact S) ?_
            rotate_left 1
            · intro w hSw
              clear hSw
              go_simp
              try with_reducible rfl
            simp only [Act.put, List.setIfInBounds_toArray, List.set_cons_zero, List.set_cons_succ]
            refine wpAnyH_ready (rs := [42]) (by kernel_rfl) (by simp) ?_
            refine AllReadyH.cons rfl (fun K hK => ?_) AllReadyH.nil
            go_simp
            go_wp2_with (go_at_call 14; refine (helpMem_c S.inv.1.1 S.inv.1.2 HSC.out.1 HSC.out.2.2).mono ?_; rintro e wf ⟨rfl, hbf⟩; replace S := S.below hbf; clear hbf)
            refine hK.out _ _ (by exact S) (fun _ => ?_)
            clear hK K
            refine wpAnyH_take (i := 43) (oi := { dst := some 143, op := Op.unOp UnOp.not 4 (Operand.tmp 142), type := 4, pos := "law.go:86", after := #[{ on := 42, ground := Ground.data }, { on := 39, ground := Ground.guard }], guard := some (39, true) }) (v := ?_) rfl (by kernel_rfl) (by kernel_rfl) (by kernel_rfl) (fun _ _ _ h => h) (Or.inl ⟨by rfl, ?_⟩) (by exact S) ?_
            rotate_left 1
            · intro w hSw
              clear hSw
              go_simp
              try with_reducible rfl
            simp only [Act.put, List.setIfInBounds_toArray, List.set_cons_zero, List.set_cons_succ]
            refine wpAnyH_take (i := 44) (oi := { dst := some 144, op := Op.pick (Operand.tmp 139) (Operand.tmp 143) (Operand.const (Value.bool false)), type := 4, pos := "law.go:86", after := #[{ on := 39, ground := Ground.data }, { on := 43, ground := Ground.data }, { on := 36, ground := Ground.guard }], guard := some (36, false) }) (v := ?_) rfl (by kernel_rfl) (by kernel_rfl) (by kernel_rfl) (fun _ _ _ h => h) (Or.inl ⟨by rfl, ?_⟩) (by exact S) ?_
            rotate_left 1
            · intro w hSw
              clear hSw
              go_simp
              try with_reducible rfl
            simp only [Act.put, List.setIfInBounds_toArray, List.set_cons_zero, List.set_cons_succ]
            refine wpAnyH_take (i := 45) (oi := { dst := some 145, op := Op.pick (Operand.tmp 136) (Operand.const (Value.bool true)) (Operand.tmp 144), type := 4, pos := "law.go:86", after := #[{ on := 36, ground := Ground.data }, { on := 44, ground := Ground.data }], guard := none }) (v := ?_) rfl (by kernel_rfl) (by kernel_rfl) (by kernel_rfl) (fun _ _ _ h => h) (Or.inl ⟨by rfl, ?_⟩) (by exact S) ?_
            rotate_left 1
            · intro w hSw
              clear hSw
              go_simp
              try with_reducible rfl
            simp only [Act.put, List.setIfInBounds_toArray, List.set_cons_zero, List.set_cons_succ]
            refine wpAnyH_done (by kernel_rfl) ?_ _
            have HE : Hid (Below w63.heap.size w63 _) := S.lowT HB63.out HLO.out.2.2 HLO.out.2.1
            clear S
            go_wp2
            go_roundw
            case rel => exact ⟨⟨n + 1, by omega, by push_cast; rfl⟩, HE.out⟩
            case measure =>
              simp only [intOf]
              omega
          · skip
            have S := SH.start w6
            go_upto_region 16 with (first
              | ((with_reducible refine wpl_is ?_); first
                | (refine SH.box (L := []) S rfl _ _ rfl (Cel.any [.slice none 0 0, .slice none 0 0]) rfl ?_; clear S; intro bm wm S)))
            have HMB : Hid (MemAt wm bm 0 bm (bm + 1) [] [] [] (fun _ => 0) ∧ bm + 1 ≤ wm.heap.size ∧ w6.heap.size ≤ bm ∧ Below w6.heap.size w6 wm) := ⟨S.memNone, (S.at (i := 0) rfl).1.lt, (S.at (i := 0) rfl).2.1, S.low⟩
            clear S
            have HB6 : Hid (Below w18.heap.size w18 wm) := bthru (bthru (bthru HWI.out HM.out.2.2.2.2) HN.out.2.2.2.2.2) HMB.out.2.2.2
            have HB63 : Hid (Below w63.heap.size w63 wm) := bthru (bthru (bthru HBI.out HM.out.2.2.2.2) HN.out.2.2.2.2.2) HMB.out.2.2.2
            have HNN : Hid (hi1 ≤ bm ∧ bm ≤ bm + 1 ∧ bm + 1 ≤ wm.heap.size ∧ 0 ≤ bm + 1 ∧ hi1 ≤ bm + 1 ∧ lo1 ≤ bm) := by
              have h3 := HM.out.2.2.2.1
              have h4 := HN.out.2.2.1
              have h5 := HN.out.2.2.2.1
              have h6 := HN.out.2.2.2.2.1
              have h7 := HMB.out.2.2.1
              exact ⟨by omega, by omega, HMB.out.2.1, by omega, by omega, by omega⟩
            have HLO : Hid (w18.heap.size ≤ lo1 ∧ lo1 ≤ wm.heap.size ∧ w63.heap.size ≤ lo1) := by
              have h1 := HWI.out.size
              have h2 := HM.out.2.1
              have h3 := HNN.out.2.2.1
              have h4 := HNN.out.2.2.2.2.2
              have h7 := HBI.out.size
              exact ⟨by omega, by omega, by omega⟩
            obtain ⟨fin, hfin⟩ : ∃ f, runS at' [] code kk.toNat ⟨r, [], 0, []⟩ = f := ⟨_, rfl⟩
            have HF : Hid (okE fin.1.E ∧ fin.1.E.length ≤ 100000) := by
              have h := run_okE at' [] code kk.toNat ⟨r, [], 0, []⟩ (fun e he => by cases he)
              rw [hfin] at h
              exact ⟨h.1, by have := h.2; simp only [List.length_nil] at this; omega⟩
            have HA1 : Hid (∀ b o, Ac = some ⟨b, o, none⟩ → code = [] ∨ b < lo1) := fun b o h => (HCA.out b o h).imp id fun q => Nat.lt_of_lt_of_le q HLO.out.1
            have C1 : Hid (Calls Tryz.prog 9 #[.slice Ac code.length cn, .int .i64 at', (Cel.regs r).val, .pointer none, .int .i64 kk] wm fun e w' => RunPostN wm fin e w') := run_nil code Ac cn at' kk r wm (HCL.out _ HB6.out) (fun b o h => (HA1.out b o h).imp id fun q => Nat.lt_of_lt_of_le q HLO.out.2.1) HOK.out HQ.out.1 HQ.out.2.1 (by omega) fin hfin
            have C2 : Hid (∀ w8, MemAt w8 bm 0 bm (bm + 1) [] [] [] (fun _ => 0) → CL w8 Ac code → Calls Tryz.prog 10 #[.slice Ac code.length cn, .int .i64 at', (Cel.regs r).val, .pointer (some ⟨bm, 0, none⟩), .int .i64 kk] w8 fun e w' => RunPost w8 bm 0 bm (bm + 1) [] [] (fun _ => 0) fin e w') := fun w8 h1 h3 => rrunA_c code Ac cn at' kk r w8 h1 (Nat.zero_le _) (by decide) h3 (fun b o h => (HA1.out b o h).imp id fun q => .inl (Nat.lt_of_lt_of_le q HNN.out.2.2.2.2.2)) HOK.out HQ.out.1 HQ.out.2.1 (by omega) fin hfin
            have S : SH (tZ lo1 (bm + 1) (fun _ => False) (J0 pm lo1 hi1 Bs G D0 qm bm 0 bm (bm + 1) [] [] [] (fun _ => 0))) wm wm [] := SH.startT wm (stb_J0 HNN.out.2.2.2.2.1 HNN.out.2.2.2.1) ⟨(HM.out.1.below HN.out.2.2.2.2.2).below HMB.out.2.2.2, HMB.out.1⟩ HNN.out.2.2.1
            clear hfin
            go_upto_region 18 with (first
              | ((with_reducible refine wpl_isDst 90 ?_); refine wpl_blk 27 _ rfl b14 rfl (Cel.regs r) (HW.out.2.1.below (S.lowT HB6.out HLO.out.1 HLO.out.2.1)) _ Tryz.underlying27 rfl (by rw [regs_length hr32]; exact szRegs) rfl ?_)
              | ((with_reducible refine wpl_isDst 96 ?_); refine wpl_blk 27 _ rfl b14 rfl (Cel.regs r) (HW.out.2.1.below (S.lowT HB6.out HLO.out.1 HLO.out.2.1)) _ Tryz.underlying27 rfl (by rw [regs_length hr32]; exact szRegs) rfl ?_)
              | (go_at_call 9; refine Calls.mono C1.out ?_; rintro e w7 ⟨Ax, cx, bx, rfl, hev, hb1, hbl, hokf⟩; have hf32 : fin.1.R.length = 32 := hokf.1; have HBX : Hid (bm + 1 ≤ bx) := Nat.le_trans HNN.out.2.2.1 hb1; replace S := S.runX HNN.out.2.2.2.2.1 HNN.out.2.2.2.1 (Below.mid hbl lo1 hi1) (S.inv.1.below hbl) (S.inv.2.below hbl) hev hb1; clear hev hb1 hbl hokf C1)
              | (go_at_call 10; refine (C2.out _ S.inv.1.2 (HCL.out _ (S.lowT HB6.out HLO.out.1 HLO.out.2.1))).mono ?_; rintro e w9 ⟨Ay, cy, by', rfl, hev, hb1, _, hM9, hmid, _⟩; replace S := S.runY HNN.out.1 HNN.out.2.1 HNN.out.2.2.2.1 HNN.out.2.2.2.2.2 hmid HBX.out hM9 hev hb1; clear hev hb1 hM9 hmid C2)
              | ((with_reducible refine wpl_is ?_); first
                | (refine S.alloc rfl 49 rfl _ zeroRes ?_; clear S; intro b23 wx S)
                | (refine S.storeAll rfl 49 _ _ rfl b23 (Cel.res fin.1.R _ _ _) rfl rfl 0 _ rfl (by rw [res_length hf32, res_length (by simp)]) (one_res rfl) (by rw [res_length hf32]; exact szRes) ?_; clear S; intro wy S; simp only [List.set_cons_zero, List.set_cons_succ] at S)
                | (refine S.alloc rfl 52 rfl _ zeroRef ?_; clear S; intro b24 wx S)
                | (refine S.storeAll rfl 52 _ _ rfl b24 (Cel.res fin.1.R _ _ _) rfl rfl 0 _ rfl (by rw [res_length hf32, res_length (by simp)]) (one_res rfl) (by rw [res_length hf32]; exact szRef) ?_; clear S; intro wy S; simp only [List.set_cons_zero, List.set_cons_succ] at S)))
            replace S : SH (tZ lo1 (bm + 1) _ _) wm _ [(b24, Cel.res fin.1.R (.slice Ay fin.1.E.length cy) fin.2 fin.1.p), (b23, Cel.res fin.1.R (.slice Ax fin.1.E.length cx) fin.2 fin.1.p)] := S
            refine wp_region_held_drew (S := fun w' => SH (tZ lo1 (bm + 1) (fun k => (Value.slice Ax fin.1.E.length cx).ownBlock = some k ∨ (Value.slice Ay fin.1.E.length cy).ownBlock = some k) (fun w => J0 pm lo1 hi1 Bs G D0 qm bm 0 bm (bm + 1) [] [] fin.1.D (fun _ => 0) w ∧ (EvRow w bx (.slice Ax fin.1.E.length cx) fin.1.E ∧ EvRow w by' (.slice Ay fin.1.E.length cy) fin.1.E))) wm w' [(b24, Cel.res fin.1.R (.slice Ay fin.1.E.length cy) fin.2 fin.1.p), (b23, Cel.res fin.1.R (.slice Ax fin.1.E.length cx) fin.2 fin.1.p)]) (by kernel_rfl) (by first | exact S.drew | exact S.drew.dropR) (fun _ => ?_)
            replace S := S.drew
            refine wpAnyH_take (i := 0) (oi := { dst := some 100, op := Op.fieldAddr 49 (Operand.tmp 23) 0, type := 0, pos := "law.go:86", after := #[], guard := none }) (v := ?_) rfl (by kernel_rfl) (by kernel_rfl) (by kernel_rfl) (fun _ _ _ h => h) (Or.inl ⟨by rfl, ?_⟩) (by exact S) ?_
            rotate_left 1
            · intro w hSw
              clear hSw
              go_simp
              try with_reducible rfl
            simp only [Act.put, List.setIfInBounds_toArray, List.set_cons_zero, List.set_cons_succ]
            refine wpAnyH_take (i := 1) (oi := { dst := some 101, op := Op.load 27 (Operand.tmp 100), type := 27, pos := "law.go:86", after := #[{ on := 0, ground := Ground.data }], guard := none }) (v := _) rfl (by kernel_rfl) (by kernel_rfl) (by kernel_rfl) (fun _ _ _ h => h) (y_loadRegs (by rfl) _ _ rfl _ rfl 1 _ _ _ _ rfl _ Tryz.underlying27 rfl (by rw [rc_length, hf32]; exact szRegs)) (by exact S) ?_
            simp only [Act.put, List.setIfInBounds_toArray, List.set_cons_zero, List.set_cons_succ]
            refine wpAnyH_take (i := 2) (oi := { dst := some 102, op := Op.fieldAddr 52 (Operand.tmp 24) 0, type := 0, pos := "law.go:86", after := #[], guard := none }) (v := ?_) rfl (by kernel_rfl) (by kernel_rfl) (by kernel_rfl) (fun _ _ _ h => h) (Or.inl ⟨by rfl, ?_⟩) (by exact S) ?_
            rotate_left 1
            · intro w hSw
              clear hSw
              go_simp
              try with_reducible rfl
            simp only [Act.put, List.setIfInBounds_toArray, List.set_cons_zero, List.set_cons_succ]
            refine wpAnyH_take (i := 3) (oi := { dst := some 103, op := Op.load 27 (Operand.tmp 102), type := 27, pos := "law.go:86", after := #[{ on := 2, ground := Ground.data }], guard := none }) (v := _) rfl (by kernel_rfl) (by kernel_rfl) (by kernel_rfl) (fun _ _ _ h => h) (y_loadRegs (by rfl) _ _ rfl _ rfl 0 _ _ _ _ rfl _ Tryz.underlying27 rfl (by rw [rc_length, hf32]; exact szRegs)) (by exact S) ?_
            simp only [Act.put, List.setIfInBounds_toArray, List.set_cons_zero, List.set_cons_succ]
            refine wpAnyH_take (i := 4) (oi := { dst := some 104, op := Op.binOp BinOp.neq 27 (Operand.tmp 101) (Operand.tmp 103) 27, type := 4, pos := "law.go:86", after := #[{ on := 1, ground := Ground.data }, { on := 3, ground := Ground.data }], guard := none }) (v := _) rfl (by kernel_rfl) (by kernel_rfl) (by kernel_rfl) (fun _ _ _ h => h) (.inl ⟨by rfl, fun w _ => neq_run hf32 rfl rfl rfl⟩) (by exact S) ?_
            simp only [Act.put, List.setIfInBounds_toArray, List.set_cons_zero, List.set_cons_succ]
            refine wpAnyH_take (i := 5) (oi := { dst := some 105, op := Op.move (Operand.tmp 104), type := 4, pos := "law.go:86", after := #[{ on := 4, ground := Ground.data }], guard := none }) (v := ?_) rfl (by kernel_rfl) (by kernel_rfl) (by kernel_rfl) (fun _ _ _ h => h) (Or.inl ⟨by rfl, ?_⟩) (by exact S) ?_
            rotate_left 1
            · intro w hSw
              clear hSw
              go_simp
              try with_reducible rfl
            simp only [Act.put, List.setIfInBounds_toArray, List.set_cons_zero, List.set_cons_succ]
            refine wpAnyH_take (i := 6) (oi := { dst := some 106, op := Op.fieldAddr 49 (Operand.tmp 23) 2, type := 0, pos := "law.go:86", after := #[{ on := 5, ground := Ground.guard }], guard := some (5, false) }) (v := ?_) rfl (by kernel_rfl) (by kernel_rfl) (by kernel_rfl) (fun _ _ _ h => h) (Or.inl ⟨by rfl, ?_⟩) (by exact S) ?_
            rotate_left 1
            · intro w hSw
              clear hSw
              go_simp
              try with_reducible rfl
            simp only [Act.put, List.setIfInBounds_toArray, List.set_cons_zero, List.set_cons_succ]
            refine wpAnyH_take (i := 7) (oi := { dst := some 107, op := Op.load 35 (Operand.tmp 106), type := 35, pos := "law.go:86", after := #[{ on := 6, ground := Ground.data }, { on := 5, ground := Ground.guard }], guard := some (5, false) }) (v := _) rfl (by kernel_rfl) (by kernel_rfl) (by kernel_rfl) (fun _ _ _ h => h) (y_load1 (by rfl) _ _ rfl _ _ rfl 1 _ rfl _ (res_33 hf32 _ _ _) _ Tryz.underlying35 rfl) (by exact S) ?_
            simp only [Act.put, List.setIfInBounds_toArray, List.set_cons_zero, List.set_cons_succ]
            refine wpAnyH_take (i := 8) (oi := { dst := some 108, op := Op.fieldAddr 52 (Operand.tmp 24) 2, type := 0, pos := "law.go:86", after := #[{ on := 5, ground := Ground.guard }], guard := some (5, false) }) (v := ?_) rfl (by kernel_rfl) (by kernel_rfl) (by kernel_rfl) (fun _ _ _ h => h) (Or.inl ⟨by rfl, ?_⟩) (by exact S) ?_
            rotate_left 1
            · intro w hSw
              clear hSw
              go_simp
              try with_reducible rfl
            simp only [Act.put, List.setIfInBounds_toArray, List.set_cons_zero, List.set_cons_succ]
            refine wpAnyH_take (i := 9) (oi := { dst := some 109, op := Op.load 3 (Operand.tmp 108), type := 3, pos := "law.go:86", after := #[{ on := 8, ground := Ground.data }, { on := 5, ground := Ground.guard }], guard := some (5, false) }) (v := _) rfl (by kernel_rfl) (by kernel_rfl) (by kernel_rfl) (fun _ _ _ h => h) (y_load1 (by rfl) _ _ rfl _ _ rfl 0 _ rfl _ (res_33 hf32 _ _ _) _ Tryz.underlying3 rfl) (by exact S) ?_
            simp only [Act.put, List.setIfInBounds_toArray, List.set_cons_zero, List.set_cons_succ]
            refine wpAnyH_take (i := 10) (oi := { dst := some 110, op := Op.binOp BinOp.neq 3 (Operand.tmp 107) (Operand.tmp 109) 3, type := 4, pos := "law.go:86", after := #[{ on := 7, ground := Ground.data }, { on := 9, ground := Ground.data }, { on := 5, ground := Ground.guard }], guard := some (5, false) }) (v := ?_) rfl (by kernel_rfl) (by kernel_rfl) (by kernel_rfl) (fun _ _ _ h => h) (Or.inl ⟨by rfl, ?_⟩) (by exact S) ?_
            rotate_left 1
            · intro w hSw
              clear hSw
              go_simp
              try with_reducible rfl
            simp only [Act.put, List.setIfInBounds_toArray, List.set_cons_zero, List.set_cons_succ]
            refine wpAnyH_take (i := 11) (oi := { dst := some 111, op := Op.pick (Operand.tmp 105) (Operand.const (Value.bool true)) (Operand.tmp 110), type := 4, pos := "law.go:86", after := #[{ on := 5, ground := Ground.data }, { on := 10, ground := Ground.data }], guard := none }) (v := ?_) rfl (by kernel_rfl) (by kernel_rfl) (by kernel_rfl) (fun _ _ _ h => h) (Or.inl ⟨by rfl, ?_⟩) (by exact S) ?_
            rotate_left 1
            · intro w hSw
              clear hSw
              go_simp
              try with_reducible rfl
            simp only [Act.put, List.setIfInBounds_toArray, List.set_cons_zero, List.set_cons_succ]
            refine wpAnyH_take (i := 12) (oi := { dst := some 112, op := Op.move (Operand.tmp 111), type := 4, pos := "law.go:86", after := #[{ on := 11, ground := Ground.data }, { on := 5, ground := Ground.chain }], guard := none }) (v := ?_) rfl (by kernel_rfl) (by kernel_rfl) (by kernel_rfl) (fun _ _ _ h => h) (Or.inl ⟨by rfl, ?_⟩) (by exact S) ?_
            rotate_left 1
            · intro w hSw
              clear hSw
              go_simp
              try with_reducible rfl
            simp only [Act.put, List.setIfInBounds_toArray, List.set_cons_zero, List.set_cons_succ]
            refine wpAnyH_take (i := 13) (oi := { dst := some 113, op := Op.fieldAddr 49 (Operand.tmp 23) 3, type := 0, pos := "law.go:86", after := #[{ on := 12, ground := Ground.guard }], guard := some (12, false) }) (v := ?_) rfl (by kernel_rfl) (by kernel_rfl) (by kernel_rfl) (fun _ _ _ h => h) (Or.inl ⟨by rfl, ?_⟩) (by exact S) ?_
            rotate_left 1
            · intro w hSw
              clear hSw
              go_simp
              try with_reducible rfl
            simp only [Act.put, List.setIfInBounds_toArray, List.set_cons_zero, List.set_cons_succ]
            refine wpAnyH_take (i := 14) (oi := { dst := some 114, op := Op.load 3 (Operand.tmp 113), type := 3, pos := "law.go:86", after := #[{ on := 13, ground := Ground.data }, { on := 12, ground := Ground.guard }], guard := some (12, false) }) (v := _) rfl (by kernel_rfl) (by kernel_rfl) (by kernel_rfl) (fun _ _ _ h => h) (y_load1 (by rfl) _ _ rfl _ _ rfl 1 _ rfl _ (res_34 hf32 _ _ _) _ Tryz.underlying3 rfl) (by exact S) ?_
            simp only [Act.put, List.setIfInBounds_toArray, List.set_cons_zero, List.set_cons_succ]
            refine wpAnyH_take (i := 15) (oi := { dst := some 115, op := Op.fieldAddr 52 (Operand.tmp 24) 3, type := 0, pos := "law.go:86", after := #[{ on := 12, ground := Ground.guard }], guard := some (12, false) }) (v := ?_) rfl (by kernel_rfl) (by kernel_rfl) (by kernel_rfl) (fun _ _ _ h => h) (Or.inl ⟨by rfl, ?_⟩) (by exact S) ?_
            rotate_left 1
            · intro w hSw
              clear hSw
              go_simp
              try with_reducible rfl
            simp only [Act.put, List.setIfInBounds_toArray, List.set_cons_zero, List.set_cons_succ]
            refine wpAnyH_take (i := 16) (oi := { dst := some 116, op := Op.load 3 (Operand.tmp 115), type := 3, pos := "law.go:86", after := #[{ on := 15, ground := Ground.data }, { on := 12, ground := Ground.guard }], guard := some (12, false) }) (v := _) rfl (by kernel_rfl) (by kernel_rfl) (by kernel_rfl) (fun _ _ _ h => h) (y_load1 (by rfl) _ _ rfl _ _ rfl 0 _ rfl _ (res_34 hf32 _ _ _) _ Tryz.underlying3 rfl) (by exact S) ?_
            simp only [Act.put, List.setIfInBounds_toArray, List.set_cons_zero, List.set_cons_succ]
            refine wpAnyH_take (i := 17) (oi := { dst := some 117, op := Op.binOp BinOp.neq 3 (Operand.tmp 114) (Operand.tmp 116) 3, type := 4, pos := "law.go:86", after := #[{ on := 14, ground := Ground.data }, { on := 16, ground := Ground.data }, { on := 12, ground := Ground.guard }], guard := some (12, false) }) (v := ?_) rfl (by kernel_rfl) (by kernel_rfl) (by kernel_rfl) (fun _ _ _ h => h) (Or.inl ⟨by rfl, ?_⟩) (by exact S) ?_
            rotate_left 1
            · intro w hSw
              clear hSw
              go_simp
              try with_reducible rfl
            simp only [Act.put, List.setIfInBounds_toArray, List.set_cons_zero, List.set_cons_succ]
            refine wpAnyH_take (i := 18) (oi := { dst := some 118, op := Op.pick (Operand.tmp 112) (Operand.const (Value.bool true)) (Operand.tmp 117), type := 4, pos := "law.go:86", after := #[{ on := 12, ground := Ground.data }, { on := 17, ground := Ground.data }], guard := none }) (v := ?_) rfl (by kernel_rfl) (by kernel_rfl) (by kernel_rfl) (fun _ _ _ h => h) (Or.inl ⟨by rfl, ?_⟩) (by exact S) ?_
            rotate_left 1
            · intro w hSw
              clear hSw
              go_simp
              try with_reducible rfl
            simp only [Act.put, List.setIfInBounds_toArray, List.set_cons_zero, List.set_cons_succ]
            refine wpAnyH_take (i := 19) (oi := { dst := some 119, op := Op.move (Operand.tmp 118), type := 4, pos := "law.go:86", after := #[{ on := 18, ground := Ground.data }, { on := 12, ground := Ground.chain }], guard := none }) (v := ?_) rfl (by kernel_rfl) (by kernel_rfl) (by kernel_rfl) (fun _ _ _ h => h) (Or.inl ⟨by rfl, ?_⟩) (by exact S) ?_
            rotate_left 1
            · intro w hSw
              clear hSw
              go_simp
              try with_reducible rfl
            simp only [Act.put, List.setIfInBounds_toArray, List.set_cons_zero, List.set_cons_succ]
            refine wpAnyH_take (i := 20) (oi := { dst := some 120, op := Op.fieldAddr 49 (Operand.tmp 23) 1, type := 0, pos := "law.go:86", after := #[{ on := 19, ground := Ground.guard }], guard := some (19, false) }) (v := ?_) rfl (by kernel_rfl) (by kernel_rfl) (by kernel_rfl) (fun _ _ _ h => h) (Or.inl ⟨by rfl, ?_⟩) (by exact S) ?_
            rotate_left 1
            · intro w hSw
              clear hSw
              go_simp
              try with_reducible rfl
            simp only [Act.put, List.setIfInBounds_toArray, List.set_cons_zero, List.set_cons_succ]
            refine wpAnyH_take (i := 21) (oi := { dst := some 121, op := Op.load 47 (Operand.tmp 120), type := 47, pos := "law.go:86", after := #[{ on := 20, ground := Ground.data }, { on := 19, ground := Ground.guard }], guard := some (19, false) }) (v := _) rfl (by kernel_rfl) (by kernel_rfl) (by kernel_rfl) (fun _ _ _ h => h) (y_load1 (by rfl) _ _ rfl _ _ rfl 1 _ rfl _ (res_32 hf32 _ _ _) _ Tryz.underlying47 rfl) (by exact S) ?_
            simp only [Act.put, List.setIfInBounds_toArray, List.set_cons_zero, List.set_cons_succ]
            refine wpAnyH_take (i := 22) (oi := { dst := some 122, op := Op.fieldAddr 52 (Operand.tmp 24) 1, type := 0, pos := "law.go:86", after := #[{ on := 19, ground := Ground.guard }], guard := some (19, false) }) (v := ?_) rfl (by kernel_rfl) (by kernel_rfl) (by kernel_rfl) (fun _ _ _ h => h) (Or.inl ⟨by rfl, ?_⟩) (by exact S) ?_
            rotate_left 1
            · intro w hSw
              clear hSw
              go_simp
              try with_reducible rfl
            simp only [Act.put, List.setIfInBounds_toArray, List.set_cons_zero, List.set_cons_succ]
            refine wpAnyH_take (i := 23) (oi := { dst := some 123, op := Op.load 47 (Operand.tmp 122), type := 47, pos := "law.go:86", after := #[{ on := 22, ground := Ground.data }, { on := 19, ground := Ground.guard }], guard := some (19, false) }) (v := _) rfl (by kernel_rfl) (by kernel_rfl) (by kernel_rfl) (fun _ _ _ h => h) (y_load1 (by rfl) _ _ rfl _ _ rfl 0 _ rfl _ (res_32 hf32 _ _ _) _ Tryz.underlying47 rfl) (by exact S) ?_
            simp only [Act.put, List.setIfInBounds_toArray, List.set_cons_zero, List.set_cons_succ]
            refine wpAnyH_ready (rs := [24]) (by kernel_rfl) (by simp) ?_
            refine AllReadyH.cons rfl (fun K hK => ?_) AllReadyH.nil
            go_simp
            go_wp2_with (go_at_call 11; refine (sev_c _ _ _ _ fin.1.E _ S.inv.2.1.at S.inv.2.2.at HF.out.2).mono ?_; rintro e wf ⟨rfl, hbf⟩; replace S := S.below hbf; clear hbf)
            refine hK.out _ _ (by exact S) (fun _ => ?_)
            clear hK K
            refine wpAnyH_take (i := 25) (oi := { dst := some 125, op := Op.unOp UnOp.not 4 (Operand.tmp 124), type := 4, pos := "law.go:86", after := #[{ on := 24, ground := Ground.data }, { on := 19, ground := Ground.guard }], guard := some (19, false) }) (v := ?_) rfl (by kernel_rfl) (by kernel_rfl) (by kernel_rfl) (fun _ _ _ h => h) (Or.inl ⟨by rfl, ?_⟩) (by exact S) ?_
            rotate_left 1
            · intro w hSw
              clear hSw
              go_simp
              try with_reducible rfl
            simp only [Act.put, List.setIfInBounds_toArray, List.set_cons_zero, List.set_cons_succ]
            refine wpAnyH_take (i := 26) (oi := { dst := some 126, op := Op.pick (Operand.tmp 119) (Operand.const (Value.bool true)) (Operand.tmp 125), type := 4, pos := "law.go:86", after := #[{ on := 19, ground := Ground.data }, { on := 25, ground := Ground.data }], guard := none }) (v := ?_) rfl (by kernel_rfl) (by kernel_rfl) (by kernel_rfl) (fun _ _ _ h => h) (Or.inl ⟨by rfl, ?_⟩) (by exact S) ?_
            rotate_left 1
            · intro w hSw
              clear hSw
              go_simp
              try with_reducible rfl
            simp only [Act.put, List.setIfInBounds_toArray, List.set_cons_zero, List.set_cons_succ]
            refine wpAnyH_take (i := 27) (oi := { dst := some 127, op := Op.move (Operand.tmp 126), type := 4, pos := "law.go:86", after := #[{ on := 26, ground := Ground.data }, { on := 24, ground := Ground.chain }], guard := none }) (v := ?_) rfl (by kernel_rfl) (by kernel_rfl) (by kernel_rfl) (fun _ _ _ h => h) (Or.inl ⟨by rfl, ?_⟩) (by exact S) ?_
            rotate_left 1
            · intro w hSw
              clear hSw
              go_simp
              try with_reducible rfl
            simp only [Act.put, List.setIfInBounds_toArray, List.set_cons_zero, List.set_cons_succ]
            refine wpAnyH_take (i := 28) (oi := { dst := some 128, op := Op.fieldAddr 49 (Operand.tmp 23) 1, type := 0, pos := "law.go:86", after := #[{ on := 27, ground := Ground.guard }], guard := some (27, false) }) (v := ?_) rfl (by kernel_rfl) (by kernel_rfl) (by kernel_rfl) (fun _ _ _ h => h) (Or.inl ⟨by rfl, ?_⟩) (by exact S) ?_
            rotate_left 1
            · intro w hSw
              clear hSw
              go_simp
              try with_reducible rfl
            simp only [Act.put, List.setIfInBounds_toArray, List.set_cons_zero, List.set_cons_succ]
            refine wpAnyH_take (i := 29) (oi := { dst := some 129, op := Op.load 47 (Operand.tmp 128), type := 47, pos := "law.go:86", after := #[{ on := 28, ground := Ground.data }, { on := 27, ground := Ground.guard }], guard := some (27, false) }) (v := _) rfl (by kernel_rfl) (by kernel_rfl) (by kernel_rfl) (fun _ _ _ h => h) (y_load1 (by rfl) _ _ rfl _ _ rfl 1 _ rfl _ (res_32 hf32 _ _ _) _ Tryz.underlying47 rfl) (by exact S) ?_
            simp only [Act.put, List.setIfInBounds_toArray, List.set_cons_zero, List.set_cons_succ]
            refine wpAnyH_take (i := 31) (oi := { dst := some 131, op := Op.fieldAddr 52 (Operand.tmp 24) 1, type := 0, pos := "law.go:86", after := #[{ on := 27, ground := Ground.guard }], guard := some (27, false) }) (v := ?_) rfl (by kernel_rfl) (by kernel_rfl) (by kernel_rfl) (fun _ _ _ h => h) (Or.inl ⟨by rfl, ?_⟩) (by exact S) ?_
            rotate_left 1
            · intro w hSw
              clear hSw
              go_simp
              try with_reducible rfl
            simp only [Act.put, List.setIfInBounds_toArray, List.set_cons_zero, List.set_cons_succ]
            refine wpAnyH_take (i := 32) (oi := { dst := some 132, op := Op.load 47 (Operand.tmp 131), type := 47, pos := "law.go:86", after := #[{ on := 31, ground := Ground.data }, { on := 27, ground := Ground.guard }], guard := some (27, false) }) (v := _) rfl (by kernel_rfl) (by kernel_rfl) (by kernel_rfl) (fun _ _ _ h => h) (y_load1 (by rfl) _ _ rfl _ _ rfl 0 _ rfl _ (res_32 hf32 _ _ _) _ Tryz.underlying47 rfl) (by exact S) ?_
            simp only [Act.put, List.setIfInBounds_toArray, List.set_cons_zero, List.set_cons_succ]
            refine wpAnyH_ready (rs := [30]) (by kernel_rfl) (by simp) ?_
            refine AllReadyH.cons rfl (fun K hK => ?_) AllReadyH.nil
            go_simp
            go_wp2_with (go_at_call 12; refine (total_c _ _ fin.1.E _ S.inv.2.1.at HF.out.1 HF.out.2).mono ?_; rintro e wf ⟨rfl, hbf⟩; replace S := S.below hbf; clear hbf)
            refine hK.out _ _ (by exact S) (fun _ => ?_)
            clear hK K
            refine wpAnyH_ready (rs := [33]) (by kernel_rfl) (by simp) ?_
            refine AllReadyH.cons rfl (fun K hK => ?_) AllReadyH.nil
            go_simp
            go_wp2_with (go_at_call 13; refine (rtotal_c _ _ fin.1.E _ S.inv.2.2.at HF.out.1 HF.out.2).mono ?_; rintro e wf ⟨rfl, hbf⟩; replace S := S.below hbf; clear hbf)
            refine hK.out _ _ (by exact S) (fun _ => ?_)
            clear hK K
            refine wpAnyH_take (i := 34) (oi := { dst := some 134, op := Op.binOp BinOp.neq 3 (Operand.tmp 130) (Operand.tmp 133) 3, type := 4, pos := "law.go:86", after := #[{ on := 30, ground := Ground.data }, { on := 33, ground := Ground.data }, { on := 27, ground := Ground.guard }], guard := some (27, false) }) (v := ?_) rfl (by kernel_rfl) (by kernel_rfl) (by kernel_rfl) (fun _ _ _ h => h) (Or.inl ⟨by rfl, ?_⟩) (by exact S) ?_
            rotate_left 1
            · intro w hSw
              clear hSw
              go_simp
              try with_reducible rfl
            simp only [Act.put, List.setIfInBounds_toArray, List.set_cons_zero, List.set_cons_succ]
            refine wpAnyH_take (i := 35) (oi := { dst := some 135, op := Op.pick (Operand.tmp 127) (Operand.const (Value.bool true)) (Operand.tmp 134), type := 4, pos := "law.go:86", after := #[{ on := 27, ground := Ground.data }, { on := 34, ground := Ground.data }], guard := none }) (v := ?_) rfl (by kernel_rfl) (by kernel_rfl) (by kernel_rfl) (fun _ _ _ h => h) (Or.inl ⟨by rfl, ?_⟩) (by exact S) ?_
            rotate_left 1
            · intro w hSw
              clear hSw
              go_simp
              try with_reducible rfl
            simp only [Act.put, List.setIfInBounds_toArray, List.set_cons_zero, List.set_cons_succ]
            refine wpAnyH_take (i := 36) (oi := { dst := some 136, op := Op.move (Operand.tmp 135), type := 4, pos := "law.go:86", after := #[{ on := 35, ground := Ground.data }, { on := 33, ground := Ground.chain }], guard := none }) (v := ?_) rfl (by kernel_rfl) (by kernel_rfl) (by kernel_rfl) (fun _ _ _ h => h) (Or.inl ⟨by rfl, ?_⟩) (by exact S) ?_
            rotate_left 1
            · intro w hSw
              clear hSw
              go_simp
              try with_reducible rfl
            simp only [Act.put, List.setIfInBounds_toArray, List.set_cons_zero, List.set_cons_succ]
            refine wpAnyH_take (i := 37) (oi := { dst := some 137, op := Op.move (Operand.tmp 5), type := 4, pos := "law.go:86", after := #[{ on := 36, ground := Ground.guard }], guard := some (36, false) }) (v := ?_) rfl (by kernel_rfl) (by kernel_rfl) (by kernel_rfl) (fun _ _ _ h => h) (Or.inl ⟨by rfl, ?_⟩) (by exact S) ?_
            rotate_left 1
            · intro w hSw
              clear hSw
              go_simp
              try with_reducible rfl
            simp only [Act.put, List.setIfInBounds_toArray, List.set_cons_zero, List.set_cons_succ]
            refine wpAnyH_take (i := 38) (oi := { dst := some 138, op := Op.unOp UnOp.not 4 (Operand.tmp 137), type := 4, pos := "law.go:86", after := #[{ on := 37, ground := Ground.data }, { on := 36, ground := Ground.guard }], guard := some (36, false) }) (v := ?_) rfl (by kernel_rfl) (by kernel_rfl) (by kernel_rfl) (fun _ _ _ h => h) (Or.inl ⟨by rfl, ?_⟩) (by exact S) ?_
            rotate_left 1
            · intro w hSw
              clear hSw
              go_simp
              try with_reducible rfl
            simp only [Act.put, List.setIfInBounds_toArray, List.set_cons_zero, List.set_cons_succ]
            refine wpAnyH_take (i := 39) (oi := { dst := some 139, op := Op.move (Operand.tmp 138), type := 4, pos := "law.go:86", after := #[{ on := 38, ground := Ground.data }, { on := 36, ground := Ground.chain }, { on := 36, ground := Ground.guard }], guard := some (36, false) }) (v := ?_) rfl (by kernel_rfl) (by kernel_rfl) (by kernel_rfl) (fun _ _ _ h => h) (Or.inl ⟨by rfl, ?_⟩) (by exact S) ?_
            rotate_left 1
            · intro w hSw
              clear hSw
              go_simp
              try with_reducible rfl
            simp only [Act.put, List.setIfInBounds_toArray, List.set_cons_zero, List.set_cons_succ]
            refine wpAnyH_take (i := 40) (oi := { dst := some 140, op := Op.move (Operand.tmp 19), type := 34, pos := "law.go:86", after := #[{ on := 39, ground := Ground.guard }], guard := some (39, true) }) (v := _) rfl (by kernel_rfl) (by kernel_rfl) (by kernel_rfl) (fun _ _ _ h => h) (.inr ⟨by rfl, rfl⟩) (by exact S) ?_
            simp only [Act.put, List.setIfInBounds_toArray, List.set_cons_zero, List.set_cons_succ]
            refine wpAnyH_take (i := 41) (oi := { dst := some 141, op := Op.move (Operand.tmp 21), type := 41, pos := "law.go:86", after := #[{ on := 39, ground := Ground.guard }], guard := some (39, true) }) (v := _) rfl (by kernel_rfl) (by kernel_rfl) (by kernel_rfl) (fun _ _ _ h => h) (.inr ⟨by rfl, rfl⟩) (by exact S) ?_
            simp only [Act.put, List.setIfInBounds_toArray, List.set_cons_zero, List.set_cons_succ]
            refine wpAnyH_take (i := 42) (oi := { dst := some 142, op := Op.call { callee := Callee.value (Operand.func 14), args := #[Operand.tmp 140, Operand.tmp 141], argTypes := #[34, 41] }, type := 4, pos := "law.go:86", after := #[{ on := 40, ground := Ground.data }, { on := 41, ground := Ground.data }, { on := 39, ground := Ground.chain }, { on := 39, ground := Ground.guard }], guard := some (39, true) }) (v := _) rfl (by kernel_rfl) (by kernel_rfl) (by kernel_rfl) (fun _ _ _ h => h) (.inr ⟨by rfl, rfl⟩) (by exact S) ?_
            simp only [Act.put, List.setIfInBounds_toArray, List.set_cons_zero, List.set_cons_succ]
            refine wpAnyH_take (i := 43) (oi := { dst := some 143, op := Op.unOp UnOp.not 4 (Operand.tmp 142), type := 4, pos := "law.go:86", after := #[{ on := 42, ground := Ground.data }, { on := 39, ground := Ground.guard }], guard := some (39, true) }) (v := _) rfl (by kernel_rfl) (by kernel_rfl) (by kernel_rfl) (fun _ _ _ h => h) (.inr ⟨by rfl, rfl⟩) (by exact S) ?_
            simp only [Act.put, List.setIfInBounds_toArray, List.set_cons_zero, List.set_cons_succ]
            refine wpAnyH_take (i := 44) (oi := { dst := some 144, op := Op.pick (Operand.tmp 139) (Operand.tmp 143) (Operand.const (Value.bool false)), type := 4, pos := "law.go:86", after := #[{ on := 39, ground := Ground.data }, { on := 43, ground := Ground.data }, { on := 36, ground := Ground.guard }], guard := some (36, false) }) (v := ?_) rfl (by kernel_rfl) (by kernel_rfl) (by kernel_rfl) (fun _ _ _ h => h) (Or.inl ⟨by rfl, ?_⟩) (by exact S) ?_
            rotate_left 1
            · intro w hSw
              clear hSw
              go_simp
              try with_reducible rfl
            simp only [Act.put, List.setIfInBounds_toArray, List.set_cons_zero, List.set_cons_succ]
            refine wpAnyH_take (i := 45) (oi := { dst := some 145, op := Op.pick (Operand.tmp 136) (Operand.const (Value.bool true)) (Operand.tmp 144), type := 4, pos := "law.go:86", after := #[{ on := 36, ground := Ground.data }, { on := 44, ground := Ground.data }], guard := none }) (v := ?_) rfl (by kernel_rfl) (by kernel_rfl) (by kernel_rfl) (fun _ _ _ h => h) (Or.inl ⟨by rfl, ?_⟩) (by exact S) ?_
            rotate_left 1
            · intro w hSw
              clear hSw
              go_simp
              try with_reducible rfl
            simp only [Act.put, List.setIfInBounds_toArray, List.set_cons_zero, List.set_cons_succ]
            refine wpAnyH_done (by kernel_rfl) ?_ _
            have HE : Hid (Below w63.heap.size w63 _) := S.lowT HB63.out HLO.out.2.2 HLO.out.2.1
            clear S
            go_wp2
            go_roundw
            case rel => exact ⟨⟨n + 1, by omega, by push_cast; rfl⟩, HE.out⟩
            case measure =>
              simp only [intOf]
              omega
        · have hn' : ¬ (n : Int) < 2 := by omega
          go_wp2
          go_roundw
          case rel => exact ⟨⟨j + 1, by omega, by push_cast; rfl⟩, bthru HI.out.1 HBI.out⟩
          case measure =>
            simp only [intOf]
            omega
    · have hj' : ¬ (j : Int) < 3 := by omega
      go_wp2
      go_ret
      exact ⟨rfl, bthru HW.out.1 HBO.out⟩
end Go.Proofs.YtjhmmfpmmgebjaaGreat
