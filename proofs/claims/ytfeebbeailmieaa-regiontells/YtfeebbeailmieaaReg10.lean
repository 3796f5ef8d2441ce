/- sourdinelaw3.some, walked: of at most ten quadruples of bytes it makes at most ten regions of the call's own. -/
import Derived.Test.YtfeebbeailmieaaReg8
import Derived.Deep.AppendLies
namespace Go.Proofs.Ytfeebbeailmieaa
open Go.ChangeShapes Go.WideShapes Go.ChangeAt Go.RowKit
set_option linter.unusedVariables false
set_option linter.unusedSimpArgs false

/-- Rows of four bytes behind a slice. -/
def Lies4 (w : World) (A : Option Addr) (n : Nat) (V : Nat → Nat → Int) : Prop :=
  (n : Int) ≤ 9223372036854775807 ∧ ∀ i, i < n → (∀ j, j < 4 → 0 ≤ V i j ∧ V i j ≤ 255) ∧ ∃ b o, A = some ⟨b, o, none⟩ ∧ b < w.heap.size ∧ ∀ j, j < 4 → w.cell? ⟨b, o + i * 4 + j, none⟩ = some (.int .u8 (V i j))
/-- Words behind a slice. -/
def Lies1 (w : World) (A : Option Addr) (n : Nat) (V : Nat → Int) : Prop :=
  (n : Int) ≤ 9223372036854775807 ∧ ∀ i, i < n → (0 ≤ V i ∧ V i ≤ 4294967295) ∧ ∃ b o, A = some ⟨b, o, none⟩ ∧ b < w.heap.size ∧ w.cell? ⟨b, o + i, none⟩ = some (.int .u32 (V i))
theorem Lies4.below {B : Nat} {w w' : World} {A : Option Addr} {n : Nat} {V : Nat → Nat → Int} (h : Lies4 w A n V) (hb : Below B w w') (hB : w.heap.size ≤ B) : Lies4 w' A n V :=
  ⟨h.1, fun i hi => by
    obtain ⟨h1, b, o, ha, hlt, hc⟩ := h.2 i hi
    exact ⟨h1, b, o, ha, Nat.lt_of_lt_of_le hlt hb.size, fun j hj => (hb.cell (Nat.lt_of_lt_of_le hlt hB)).trans (hc j hj)⟩⟩
theorem Lies1.below {B : Nat} {w w' : World} {A : Option Addr} {n : Nat} {V : Nat → Int} (h : Lies1 w A n V) (hb : Below B w w') (hB : w.heap.size ≤ B) : Lies1 w' A n V :=
  ⟨h.1, fun i hi => by
    obtain ⟨h1, b, o, ha, hlt, hc⟩ := h.2 i hi
    exact ⟨h1, b, o, ha, Nat.lt_of_lt_of_le hlt hb.size, (hb.cell (Nat.lt_of_lt_of_le hlt hB)).trans hc⟩⟩

theorem ownsRow_of_block {w w' : World} {base : Nat} {e : TypeId} {size : Nat} {v : Value} {n : Nat} {xs : List Value} (h : w.ownsRow base e size v n xs) (hb : ∀ g, v.ownBlock = some g → w'.heap[g]? = w.heap[g]?) : w'.ownsRow base e size v n xs := by
  refine ⟨h.1, ?_⟩
  rcases h.2 with h0 | ⟨g, cap, cur, rfl, hg, hh, rest⟩
  · exact .inl h0
  · exact .inr ⟨g, cap, cur, rfl, hg, (hb g rfl).trans hh, rest⟩

theorem wrapB (x : Int) : 0 ≤ IntKind.u32.wrap x ∧ IntKind.u32.wrap x ≤ 4294967295 := by
  rw [IntKind.wrap_u32]; omega
theorem new_cells_at (w : World) (r : Reg) (H : Nat) (hH : w.heap.size = H) : ∀ j u, r.cells[j]? = some u → (w.alloc (Obj.cells #[.int .u32 r.fr, .int .u32 r.ln, .bool r.rd, .bool r.wr, .bool r.ex, .bool r.se, .slice r.ba r.bl r.bc] 36)).cell? ((⟨H, 0, none⟩ : Addr).add j) = some u := by
  subst hH
  exact new_cells w r

def someRel (w : World) (n1 : Nat) (v x i : Value) (wr : World) : Prop :=
  ∃ (k : Nat) (rs : List Reg) (y : Int), k ≤ n1 ∧ i = .int .i64 k ∧ x = .int .u32 y ∧ 0 ≤ y ∧ y ≤ 4294967295 ∧ rs.length = k ∧ (∀ r ∈ rs, r.wf) ∧ wr.ownsRow w.heap.size 36 7 v k (cellsOf rs) ∧ Below w.heap.size w wr

def SomePost (w : World) (n1 : Nat) (e : Ending) (w' : World) : Prop := ∃ A n c R, e = .returned (.slice A n c) ∧ n ≤ n1 ∧ Lies w' A n R ∧ Below w.heap.size w w'

theorem some_next {w Wx w3 : World} {n1 k : Nat} {rs : List Reg} {u5 v' : Value} {o : Obj} {y : Int} (r : Reg) (hk1 : k < n1) (hlen : rs.length = k) (hwf : ∀ r ∈ rs, r.wf) (hr : r.wf) (hB : Below w.heap.size w Wx)
    (hlt : ∀ g, u5.ownBlock = some g → w.heap.size ≤ g) (ho' : w3.ownsRow w.heap.size 36 7 v' (k + 1) (cellsOf rs ++ r.cells)) (hg : (Wx.alloc o).grownBy w3 u5.ownBlock) (y0 : 0 ≤ y) (y1 : y ≤ 4294967295) :
    someRel w n1 v' (.int .u32 y) (.int .i64 ((k : Int) + 1)) w3 := by
  refine ⟨k + 1, rs ++ [r], y, hk1, by push_cast; rfl, rfl, y0, y1, by simp [hlen], ?_, ?_, Below.grown (Below.alloc hB hB.size _) hg (by rw [alloc_size']; exact Nat.le_succ_of_le hB.size) hlt⟩
  · intro x hx
    rcases List.mem_append.1 hx with h | h
    · exact hwf x h
    · simp at h
      subst h
      exact hr
  · rw [cellsOf_append]
    exact ho'

set_option maxRecDepth 100000 in
set_option maxHeartbeats 8000000 in
theorem some_c (A1 A2 : Option Addr) (n1 c1 n2 c2 : Nat) (V1 : Nat → Nat → Int) (V2 : Nat → Int) (w : World) (hn10 : n1 ≤ 10) (hl1 : Lies4 w A1 n1 V1) (hl2 : Lies1 w A2 n2 V2) :
    Calls Try.prog 9 #[.slice A1 n1 c1, .slice A2 n2 c2] w fun e w' => SomePost w n1 e w' := by
  have hm1 := hl1.1
  have hm2 := hl2.1
  have H1 : Hid (Lies4 w A1 n1 V1) := hl1
  have H2 : Hid (Lies1 w A2 n2 V2) := hl2
  clear hl1 hl2
  obtain ⟨i0, hi, hz0, hz1, hz2⟩ := info_parts info36
  have HI : Hid _ := And.intro hi (And.intro hz0 (And.intro hz1 hz2))
  clear hi hz0 hz1 hz2
  go_enter Try.func9, Try.ntmps9
  go_wp2_with fail
  go_loopw [5, 6, 7] (fun v x i wr => someRel w n1 v x i wr) (fun _ _ i _ => n1 - (intOf i).toNat)
  case atStart => exact ⟨0, [], 0, Nat.zero_le _, rfl, rfl, by decide, by decide, rfl, by simp, World.ownsRow_nil _ _ _ _, Below.refl _ _⟩
  case round =>
    obtain ⟨k, rs, y, hk, rfl, rfl, y0, y1, hlen, hwf, ho, hb⟩ := hrel
    by_cases hk1 : k < n1
    · by_cases hk2 : k < n2
      · have hk1' : (k : Int) < n1 := by omega
        have hk2' : (k : Int) < n2 := by omega
        obtain ⟨v1, b, o, rfl, hlt1, cc⟩ := H1.out.2 k hk1
        obtain ⟨⟨x0, x1⟩, b2, o2, rfl, hlt2, cc2⟩ := H2.out.2 k hk2
        have e0 : wr.cell? ⟨b, o + k * 4, none⟩ = some (.int .u8 (V1 k 0)) := (hb.cell hlt1).trans (cc 0 (by decide))
        have e1 : wr.cell? ⟨b, o + k * 4 + 1, none⟩ = some (.int .u8 (V1 k 1)) := (hb.cell hlt1).trans (cc 1 (by decide))
        have e2 : wr.cell? ⟨b, o + k * 4 + 2, none⟩ = some (.int .u8 (V1 k 2)) := (hb.cell hlt1).trans (cc 2 (by decide))
        have e3 : wr.cell? ⟨b, o + k * 4 + 3, none⟩ = some (.int .u8 (V1 k 3)) := (hb.cell hlt1).trans (cc 3 (by decide))
        have e4 : wr.cell? ⟨b2, o2 + k, none⟩ = some (.int .u32 (V2 k)) := (hb.cell hlt2).trans cc2
        obtain ⟨f0, f1⟩ := v1 0 (by decide)
        obtain ⟨f2, f3⟩ := v1 1 (by decide)
        obtain ⟨f4, f5⟩ := v1 2 (by decide)
        obtain ⟨f6, f7⟩ := v1 3 (by decide)
        have hsz := hb.size
        have HB : Hid (Below w.heap.size w wr ∧ (∀ r ∈ rs, r.wf) ∧ wr.ownsRow w.heap.size 36 7 _ k (cellsOf rs) ∧ b < wr.heap.size ∧ b2 < wr.heap.size) := ⟨hb, hwf, ho, Nat.lt_of_lt_of_le hlt1 hb.size, Nat.lt_of_lt_of_le hlt2 hb.size⟩
        have hbw : b < wr.heap.size := HB.out.2.2.2.1
        have hbw2 : b2 < wr.heap.size := HB.out.2.2.2.2
        have nb1 : ¬ b = wr.heap.size := by have := HB.out.2.2.2.1; omega
        have nb2 : ¬ b2 = wr.heap.size := by have := HB.out.2.2.2.2; omega
        clear hb hwf ho v1 cc cc2 hlt1 hlt2 H1 H2 hsz
        generalize V1 k 0 = t0 at *
        generalize V1 k 1 = t1 at *
        generalize V1 k 2 = t2 at *
        generalize V1 k 3 = t3 at *
        generalize V2 k = t4 at *
        by_cases hf8 : 0 < bits .and .u8 t0 8
        · go_wp2_with fail
          go_big_region
          clear hf8
          generalize hFe : (y + t1 * 4) % 4294967296 = F at *
          generalize hLe : (t2 % 32 + 1) * 4 = L at *
          have F0 : 0 ≤ F := by omega
          have F1 : F ≤ 4294967295 := by omega
          have L0 : 0 ≤ L := by omega
          have L1 : L ≤ 4294967295 := by omega
          clear hFe hLe hbw hbw2
          generalize decide (0 < bits BinOp.and IntKind.u8 t0 1) = q1 at *
          generalize decide (0 < bits BinOp.and IntKind.u8 t0 2) = q2 at *
          generalize decide (0 < bits BinOp.and IntKind.u8 t0 4) = q3 at *
          generalize (bits BinOp.and IntKind.u8 t0 4 == 0) = q4 at *
          have HO : Hid (∀ g, u5.ownBlock = some g → w.heap.size ≤ g) := fun g h => (HB.out.2.2.1.lt g h).1
          have hAt : At7 (wr.alloc (Obj.cells #[.int .u32 F, .int .u32 L, .bool q1, .bool q2, .bool q3, .bool q4, .slice none 0 0] 36)).drew wr.heap.size 0 ⟨F, L, q1, q2, q3, q4, none, 0, 0⟩ := by
            refine ⟨?_, ?_, ?_, ?_, ?_, ?_, ?_⟩ <;> (rw [World.cell?_drew, World.cell?_alloc_new]; rfl)
          have fz : ∀ j, (wr.alloc (Obj.cells #[.int .u32 F, .int .u32 L, .bool q1, .bool q2, .bool q3, .bool q4, .slice none 0 0] 36)).drew.frozen? ⟨wr.heap.size, j, none⟩ = false := fun j => World.frozen?_alloc_at _ _ _ _ rfl
          replace e3 : (wr.alloc (Obj.cells #[.int .u32 F, .int .u32 L, .bool q1, .bool q2, .bool q3, .bool q4, .slice none 0 0] 36)).drew.cell? ⟨b, o + k * 4 + 3, none⟩ = some (.int .u8 t3) := ((((Below.refl wr.heap.size wr).alloc (Nat.le_refl _) _).drew).cell HB.out.2.2.2.1).trans e3
          replace e4 : (wr.alloc (Obj.cells #[.int .u32 F, .int .u32 L, .bool q1, .bool q2, .bool q3, .bool q4, .slice none 0 0] 36)).drew.cell? ⟨b2, o2 + k, none⟩ = some (.int .u32 t4) := ((((Below.refl wr.heap.size wr).alloc (Nat.le_refl _) _).drew).cell HB.out.2.2.2.2).trans e4
          have HW : Hid (Below w.heap.size w (wr.alloc (Obj.cells #[.int .u32 F, .int .u32 L, .bool q1, .bool q2, .bool q3, .bool q4, .slice none 0 0] 36)).drew ∧ (∀ r ∈ rs, r.wf) ∧ (wr.alloc (Obj.cells #[.int .u32 F, .int .u32 L, .bool q1, .bool q2, .bool q3, .bool q4, .slice none 0 0] 36)).drew.ownsRow w.heap.size 36 7 u5 k (cellsOf rs) ∧
              wr.heap.size < (wr.alloc (Obj.cells #[.int .u32 F, .int .u32 L, .bool q1, .bool q2, .bool q3, .bool q4, .slice none 0 0] 36)).drew.heap.size ∧ (∀ g, u5.ownBlock = some g → ¬ g = wr.heap.size)) :=
            ⟨(HB.out.1.alloc HB.out.1.size _).drew, HB.out.2.1, HB.out.2.2.1.alloc _, by show wr.heap.size < (wr.alloc _).heap.size; rw [alloc_size']; omega, fun g h => by have := (HB.out.2.2.1.lt g h).2; omega⟩
          have hGw : Hid (w.heap.size ≤ wr.heap.size) := HB.out.1.size
          generalize (wr.alloc (Obj.cells #[.int .u32 F, .int .u32 L, .bool q1, .bool q2, .bool q3, .bool q4, .slice none 0 0] 36)).drew = W at *
          generalize wr.heap.size = G at *
          obtain ⟨d0, d1, d2, d3, d4, d5, d6⟩ := hAt
          simp only [Nat.zero_add] at d0 d1 d2 d3 d4 d5 d6
          clear e0 e1 e2
          by_cases h0 : t3 = 0
          · subst h0
            have hGW : G < W.heap.size := HW.out.2.2.2.1
            go_wp2_with (first
              | (at_builtin; refine wpList_append_own _ rfl _ _ 22 rfl w.heap.size 36 i0 _ 7 40 Try.underlying22 HI.out.1 HI.out.2.1 HI.out.2.2.1 HI.out.2.2.2 rfl (by decide) u5 k (cellsOf rs) rfl ((ownsRow_of_block (w' := (W.setCell ⟨G, 0, none⟩ (.int .u32 t4))) HW.out.2.2.1 (fun g hg => (Below.heap_setCell _ ⟨G, _, none⟩ _ g (HW.out.2.2.2.2 g hg)))).alloc _) ⟨W.heap.size, 0, none⟩ 1 1 (Reg.cells (⟨t4, L, q1, q2, q3, q4, none, 0, 0⟩ : Reg)) rfl rfl (new_cells_at ((W.setCell ⟨G, 0, none⟩ (.int .u32 t4))) (⟨t4, L, q1, q2, q3, q4, none, 0, 0⟩ : Reg) W.heap.size (by simp)) (one_cells _) (by simp only [maxLen]; omega) (by omega) (by rw [alloc_size']; exact Nat.le_succ_of_le ((HW.out.1.setCell hGw.out _)).size) ?_)
              | fail)
            intro v' w3 ho' hg _
            have hG3 : G < (((W.setCell ⟨G, 0, none⟩ (.int .u32 t4))).alloc (Obj.cells #[.int .u32 (Reg.fr (⟨t4, L, q1, q2, q3, q4, none, 0, 0⟩ : Reg)), .int .u32 (Reg.ln (⟨t4, L, q1, q2, q3, q4, none, 0, 0⟩ : Reg)), .bool (Reg.rd (⟨t4, L, q1, q2, q3, q4, none, 0, 0⟩ : Reg)), .bool (Reg.wr (⟨t4, L, q1, q2, q3, q4, none, 0, 0⟩ : Reg)), .bool (Reg.ex (⟨t4, L, q1, q2, q3, q4, none, 0, 0⟩ : Reg)), .bool (Reg.se (⟨t4, L, q1, q2, q3, q4, none, 0, 0⟩ : Reg)), .slice (Reg.ba (⟨t4, L, q1, q2, q3, q4, none, 0, 0⟩ : Reg)) (Reg.bl (⟨t4, L, q1, q2, q3, q4, none, 0, 0⟩ : Reg)) (Reg.bc (⟨t4, L, q1, q2, q3, q4, none, 0, 0⟩ : Reg))] 36)).heap.size := by rw [alloc_size']; first | omega | (simp; omega)
            have z0 : w3.cell? ⟨G, 0, none⟩ = some (.int .u32 (Reg.fr (⟨t4, L, q1, q2, q3, q4, none, 0, 0⟩ : Reg))) := (hg.cell_far ⟨G, 0, none⟩ hG3 (fun h => HW.out.2.2.2.2 G h.symm rfl)).trans (by go_simp)
            have z1 : w3.cell? ⟨G, 1, none⟩ = some (.int .u32 (Reg.ln (⟨t4, L, q1, q2, q3, q4, none, 0, 0⟩ : Reg))) := (hg.cell_far ⟨G, 1, none⟩ hG3 (fun h => HW.out.2.2.2.2 G h.symm rfl)).trans (by go_simp)
            simp only at z0 z1
            have HR : Hid (∀ z : Int, 0 ≤ z → z ≤ 4294967295 → someRel w n1 v' (.int .u32 z) (.int .i64 ((k : Int) + 1)) w3) := fun z hz0 hz1 =>
              some_next (⟨t4, L, q1, q2, q3, q4, none, 0, 0⟩ : Reg) hk1 hlen HW.out.2.1 (by refine ⟨?_, ?_, ?_, ?_, ?_⟩ <;> simp only [] <;> first | omega | (rw [IntKind.wrap_u32]; omega)) (HW.out.1.setCell hGw.out _) (fun g h => HO.out g h) ho' hg hz0 hz1
            clear ho' hg hG3 HW HO HB d0 d1 d2 d3 d4 d5 d6 fz e3 e4
            go_wp2
            go_roundw
            case rel => exact HR.out _ (by first | omega | exact (wrapB _).1) (by first | omega | exact (wrapB _).2)
            case measure =>
              show n1 - ((k : Int) + 1).toNat < n1 - (k : Int).toNat
              omega
          by_cases h1 : t3 = 1
          · subst h1
            have hGW : G < W.heap.size := HW.out.2.2.2.1
            go_wp2_with (first
              | (at_builtin; refine wpList_append_own _ rfl _ _ 22 rfl w.heap.size 36 i0 _ 7 40 Try.underlying22 HI.out.1 HI.out.2.1 HI.out.2.2.1 HI.out.2.2.2 rfl (by decide) u5 k (cellsOf rs) rfl ((ownsRow_of_block (w' := (W.setCell ⟨G, 1, none⟩ (.int .u32 t4))) HW.out.2.2.1 (fun g hg => (Below.heap_setCell _ ⟨G, _, none⟩ _ g (HW.out.2.2.2.2 g hg)))).alloc _) ⟨W.heap.size, 0, none⟩ 1 1 (Reg.cells (⟨F, t4, q1, q2, q3, q4, none, 0, 0⟩ : Reg)) rfl rfl (new_cells_at ((W.setCell ⟨G, 1, none⟩ (.int .u32 t4))) (⟨F, t4, q1, q2, q3, q4, none, 0, 0⟩ : Reg) W.heap.size (by simp)) (one_cells _) (by simp only [maxLen]; omega) (by omega) (by rw [alloc_size']; exact Nat.le_succ_of_le ((HW.out.1.setCell hGw.out _)).size) ?_)
              | fail)
            intro v' w3 ho' hg _
            have hG3 : G < (((W.setCell ⟨G, 1, none⟩ (.int .u32 t4))).alloc (Obj.cells #[.int .u32 (Reg.fr (⟨F, t4, q1, q2, q3, q4, none, 0, 0⟩ : Reg)), .int .u32 (Reg.ln (⟨F, t4, q1, q2, q3, q4, none, 0, 0⟩ : Reg)), .bool (Reg.rd (⟨F, t4, q1, q2, q3, q4, none, 0, 0⟩ : Reg)), .bool (Reg.wr (⟨F, t4, q1, q2, q3, q4, none, 0, 0⟩ : Reg)), .bool (Reg.ex (⟨F, t4, q1, q2, q3, q4, none, 0, 0⟩ : Reg)), .bool (Reg.se (⟨F, t4, q1, q2, q3, q4, none, 0, 0⟩ : Reg)), .slice (Reg.ba (⟨F, t4, q1, q2, q3, q4, none, 0, 0⟩ : Reg)) (Reg.bl (⟨F, t4, q1, q2, q3, q4, none, 0, 0⟩ : Reg)) (Reg.bc (⟨F, t4, q1, q2, q3, q4, none, 0, 0⟩ : Reg))] 36)).heap.size := by rw [alloc_size']; first | omega | (simp; omega)
            have z0 : w3.cell? ⟨G, 0, none⟩ = some (.int .u32 (Reg.fr (⟨F, t4, q1, q2, q3, q4, none, 0, 0⟩ : Reg))) := (hg.cell_far ⟨G, 0, none⟩ hG3 (fun h => HW.out.2.2.2.2 G h.symm rfl)).trans (by go_simp)
            have z1 : w3.cell? ⟨G, 1, none⟩ = some (.int .u32 (Reg.ln (⟨F, t4, q1, q2, q3, q4, none, 0, 0⟩ : Reg))) := (hg.cell_far ⟨G, 1, none⟩ hG3 (fun h => HW.out.2.2.2.2 G h.symm rfl)).trans (by go_simp)
            simp only at z0 z1
            have HR : Hid (∀ z : Int, 0 ≤ z → z ≤ 4294967295 → someRel w n1 v' (.int .u32 z) (.int .i64 ((k : Int) + 1)) w3) := fun z hz0 hz1 =>
              some_next (⟨F, t4, q1, q2, q3, q4, none, 0, 0⟩ : Reg) hk1 hlen HW.out.2.1 (by refine ⟨?_, ?_, ?_, ?_, ?_⟩ <;> simp only [] <;> first | omega | (rw [IntKind.wrap_u32]; omega)) (HW.out.1.setCell hGw.out _) (fun g h => HO.out g h) ho' hg hz0 hz1
            clear ho' hg hG3 HW HO HB d0 d1 d2 d3 d4 d5 d6 fz e3 e4
            go_wp2
            go_roundw
            case rel => exact HR.out _ (by first | omega | exact (wrapB _).1) (by first | omega | exact (wrapB _).2)
            case measure =>
              show n1 - ((k : Int) + 1).toNat < n1 - (k : Int).toNat
              omega
          by_cases h2 : t3 = 2
          · subst h2
            have hGW : G < W.heap.size := HW.out.2.2.2.1
            go_wp2_with (first
              | (at_builtin; refine wpList_append_own _ rfl _ _ 22 rfl w.heap.size 36 i0 _ 7 40 Try.underlying22 HI.out.1 HI.out.2.1 HI.out.2.2.1 HI.out.2.2.2 rfl (by decide) u5 k (cellsOf rs) rfl ((ownsRow_of_block (w' := (W.setCell ⟨G, 0, none⟩ (.int .u32 ((F + 1) % 4294967296)))) HW.out.2.2.1 (fun g hg => (Below.heap_setCell _ ⟨G, _, none⟩ _ g (HW.out.2.2.2.2 g hg)))).alloc _) ⟨W.heap.size, 0, none⟩ 1 1 (Reg.cells (⟨(F + 1) % 4294967296, L, q1, q2, q3, q4, none, 0, 0⟩ : Reg)) rfl rfl (new_cells_at ((W.setCell ⟨G, 0, none⟩ (.int .u32 ((F + 1) % 4294967296)))) (⟨(F + 1) % 4294967296, L, q1, q2, q3, q4, none, 0, 0⟩ : Reg) W.heap.size (by simp)) (one_cells _) (by simp only [maxLen]; omega) (by omega) (by rw [alloc_size']; exact Nat.le_succ_of_le ((HW.out.1.setCell hGw.out _)).size) ?_)
              | fail)
            intro v' w3 ho' hg _
            have hG3 : G < (((W.setCell ⟨G, 0, none⟩ (.int .u32 ((F + 1) % 4294967296)))).alloc (Obj.cells #[.int .u32 (Reg.fr (⟨(F + 1) % 4294967296, L, q1, q2, q3, q4, none, 0, 0⟩ : Reg)), .int .u32 (Reg.ln (⟨(F + 1) % 4294967296, L, q1, q2, q3, q4, none, 0, 0⟩ : Reg)), .bool (Reg.rd (⟨(F + 1) % 4294967296, L, q1, q2, q3, q4, none, 0, 0⟩ : Reg)), .bool (Reg.wr (⟨(F + 1) % 4294967296, L, q1, q2, q3, q4, none, 0, 0⟩ : Reg)), .bool (Reg.ex (⟨(F + 1) % 4294967296, L, q1, q2, q3, q4, none, 0, 0⟩ : Reg)), .bool (Reg.se (⟨(F + 1) % 4294967296, L, q1, q2, q3, q4, none, 0, 0⟩ : Reg)), .slice (Reg.ba (⟨(F + 1) % 4294967296, L, q1, q2, q3, q4, none, 0, 0⟩ : Reg)) (Reg.bl (⟨(F + 1) % 4294967296, L, q1, q2, q3, q4, none, 0, 0⟩ : Reg)) (Reg.bc (⟨(F + 1) % 4294967296, L, q1, q2, q3, q4, none, 0, 0⟩ : Reg))] 36)).heap.size := by rw [alloc_size']; first | omega | (simp; omega)
            have z0 : w3.cell? ⟨G, 0, none⟩ = some (.int .u32 (Reg.fr (⟨(F + 1) % 4294967296, L, q1, q2, q3, q4, none, 0, 0⟩ : Reg))) := (hg.cell_far ⟨G, 0, none⟩ hG3 (fun h => HW.out.2.2.2.2 G h.symm rfl)).trans (by go_simp)
            have z1 : w3.cell? ⟨G, 1, none⟩ = some (.int .u32 (Reg.ln (⟨(F + 1) % 4294967296, L, q1, q2, q3, q4, none, 0, 0⟩ : Reg))) := (hg.cell_far ⟨G, 1, none⟩ hG3 (fun h => HW.out.2.2.2.2 G h.symm rfl)).trans (by go_simp)
            simp only at z0 z1
            have HR : Hid (∀ z : Int, 0 ≤ z → z ≤ 4294967295 → someRel w n1 v' (.int .u32 z) (.int .i64 ((k : Int) + 1)) w3) := fun z hz0 hz1 =>
              some_next (⟨(F + 1) % 4294967296, L, q1, q2, q3, q4, none, 0, 0⟩ : Reg) hk1 hlen HW.out.2.1 (by refine ⟨?_, ?_, ?_, ?_, ?_⟩ <;> simp only [] <;> first | omega | (rw [IntKind.wrap_u32]; omega)) (HW.out.1.setCell hGw.out _) (fun g h => HO.out g h) ho' hg hz0 hz1
            clear ho' hg hG3 HW HO HB d0 d1 d2 d3 d4 d5 d6 fz e3 e4
            go_wp2
            go_roundw
            case rel => exact HR.out _ (by first | omega | exact (wrapB _).1) (by first | omega | exact (wrapB _).2)
            case measure =>
              show n1 - ((k : Int) + 1).toNat < n1 - (k : Int).toNat
              omega
          by_cases h3 : t3 = 3
          · subst h3
            have hGW : G < W.heap.size := HW.out.2.2.2.1
            go_wp2_with (first
              | (at_builtin; refine wpList_append_own _ rfl _ _ 22 rfl w.heap.size 36 i0 _ 7 40 Try.underlying22 HI.out.1 HI.out.2.1 HI.out.2.2.1 HI.out.2.2.2 rfl (by decide) u5 k (cellsOf rs) rfl ((ownsRow_of_block (w' := ((W.setCell ⟨G, 5, none⟩ (.bool true)).setCell ⟨G, 4, none⟩ (.bool true))) HW.out.2.2.1 (fun g hg => ((Below.heap_setCell _ ⟨G, _, none⟩ _ g (HW.out.2.2.2.2 g hg))).trans (Below.heap_setCell _ ⟨G, _, none⟩ _ g (HW.out.2.2.2.2 g hg)))).alloc _) ⟨W.heap.size, 0, none⟩ 1 1 (Reg.cells (⟨F, L, q1, q2, true, true, none, 0, 0⟩ : Reg)) rfl rfl (new_cells_at (((W.setCell ⟨G, 5, none⟩ (.bool true)).setCell ⟨G, 4, none⟩ (.bool true))) (⟨F, L, q1, q2, true, true, none, 0, 0⟩ : Reg) W.heap.size (by simp)) (one_cells _) (by simp only [maxLen]; omega) (by omega) (by rw [alloc_size']; exact Nat.le_succ_of_le (((HW.out.1.setCell hGw.out _).setCell hGw.out _)).size) ?_)
              | fail)
            intro v' w3 ho' hg _
            have hG3 : G < ((((W.setCell ⟨G, 5, none⟩ (.bool true)).setCell ⟨G, 4, none⟩ (.bool true))).alloc (Obj.cells #[.int .u32 (Reg.fr (⟨F, L, q1, q2, true, true, none, 0, 0⟩ : Reg)), .int .u32 (Reg.ln (⟨F, L, q1, q2, true, true, none, 0, 0⟩ : Reg)), .bool (Reg.rd (⟨F, L, q1, q2, true, true, none, 0, 0⟩ : Reg)), .bool (Reg.wr (⟨F, L, q1, q2, true, true, none, 0, 0⟩ : Reg)), .bool (Reg.ex (⟨F, L, q1, q2, true, true, none, 0, 0⟩ : Reg)), .bool (Reg.se (⟨F, L, q1, q2, true, true, none, 0, 0⟩ : Reg)), .slice (Reg.ba (⟨F, L, q1, q2, true, true, none, 0, 0⟩ : Reg)) (Reg.bl (⟨F, L, q1, q2, true, true, none, 0, 0⟩ : Reg)) (Reg.bc (⟨F, L, q1, q2, true, true, none, 0, 0⟩ : Reg))] 36)).heap.size := by rw [alloc_size']; first | omega | (simp; omega)
            have z0 : w3.cell? ⟨G, 0, none⟩ = some (.int .u32 (Reg.fr (⟨F, L, q1, q2, true, true, none, 0, 0⟩ : Reg))) := (hg.cell_far ⟨G, 0, none⟩ hG3 (fun h => HW.out.2.2.2.2 G h.symm rfl)).trans (by go_simp)
            have z1 : w3.cell? ⟨G, 1, none⟩ = some (.int .u32 (Reg.ln (⟨F, L, q1, q2, true, true, none, 0, 0⟩ : Reg))) := (hg.cell_far ⟨G, 1, none⟩ hG3 (fun h => HW.out.2.2.2.2 G h.symm rfl)).trans (by go_simp)
            simp only at z0 z1
            have HR : Hid (∀ z : Int, 0 ≤ z → z ≤ 4294967295 → someRel w n1 v' (.int .u32 z) (.int .i64 ((k : Int) + 1)) w3) := fun z hz0 hz1 =>
              some_next (⟨F, L, q1, q2, true, true, none, 0, 0⟩ : Reg) hk1 hlen HW.out.2.1 (by refine ⟨?_, ?_, ?_, ?_, ?_⟩ <;> simp only [] <;> first | omega | (rw [IntKind.wrap_u32]; omega)) ((HW.out.1.setCell hGw.out _).setCell hGw.out _) (fun g h => HO.out g h) ho' hg hz0 hz1
            clear ho' hg hG3 HW HO HB d0 d1 d2 d3 d4 d5 d6 fz e3 e4
            go_wp2
            go_roundw
            case rel => exact HR.out _ (by first | omega | exact (wrapB _).1) (by first | omega | exact (wrapB _).2)
            case measure =>
              show n1 - ((k : Int) + 1).toNat < n1 - (k : Int).toNat
              omega
          by_cases h4 : t3 = 4
          · subst h4
            have hGW : G < W.heap.size := HW.out.2.2.2.1
            go_wp2_with (first
              | (at_builtin; refine wpList_append_own _ rfl _ _ 22 rfl w.heap.size 36 i0 _ 7 40 Try.underlying22 HI.out.1 HI.out.2.1 HI.out.2.2.1 HI.out.2.2.2 rfl (by decide) u5 k (cellsOf rs) rfl ((ownsRow_of_block (w' := (W.setCell ⟨G, 0, none⟩ (.int .u32 ((4294963200 - L) % 4294967296)))) HW.out.2.2.1 (fun g hg => (Below.heap_setCell _ ⟨G, _, none⟩ _ g (HW.out.2.2.2.2 g hg)))).alloc _) ⟨W.heap.size, 0, none⟩ 1 1 (Reg.cells (⟨(4294963200 - L) % 4294967296, L, q1, q2, q3, q4, none, 0, 0⟩ : Reg)) rfl rfl (new_cells_at ((W.setCell ⟨G, 0, none⟩ (.int .u32 ((4294963200 - L) % 4294967296)))) (⟨(4294963200 - L) % 4294967296, L, q1, q2, q3, q4, none, 0, 0⟩ : Reg) W.heap.size (by simp)) (one_cells _) (by simp only [maxLen]; omega) (by omega) (by rw [alloc_size']; exact Nat.le_succ_of_le ((HW.out.1.setCell hGw.out _)).size) ?_)
              | fail)
            intro v' w3 ho' hg _
            have hG3 : G < (((W.setCell ⟨G, 0, none⟩ (.int .u32 ((4294963200 - L) % 4294967296)))).alloc (Obj.cells #[.int .u32 (Reg.fr (⟨(4294963200 - L) % 4294967296, L, q1, q2, q3, q4, none, 0, 0⟩ : Reg)), .int .u32 (Reg.ln (⟨(4294963200 - L) % 4294967296, L, q1, q2, q3, q4, none, 0, 0⟩ : Reg)), .bool (Reg.rd (⟨(4294963200 - L) % 4294967296, L, q1, q2, q3, q4, none, 0, 0⟩ : Reg)), .bool (Reg.wr (⟨(4294963200 - L) % 4294967296, L, q1, q2, q3, q4, none, 0, 0⟩ : Reg)), .bool (Reg.ex (⟨(4294963200 - L) % 4294967296, L, q1, q2, q3, q4, none, 0, 0⟩ : Reg)), .bool (Reg.se (⟨(4294963200 - L) % 4294967296, L, q1, q2, q3, q4, none, 0, 0⟩ : Reg)), .slice (Reg.ba (⟨(4294963200 - L) % 4294967296, L, q1, q2, q3, q4, none, 0, 0⟩ : Reg)) (Reg.bl (⟨(4294963200 - L) % 4294967296, L, q1, q2, q3, q4, none, 0, 0⟩ : Reg)) (Reg.bc (⟨(4294963200 - L) % 4294967296, L, q1, q2, q3, q4, none, 0, 0⟩ : Reg))] 36)).heap.size := by rw [alloc_size']; first | omega | (simp; omega)
            have z0 : w3.cell? ⟨G, 0, none⟩ = some (.int .u32 (Reg.fr (⟨(4294963200 - L) % 4294967296, L, q1, q2, q3, q4, none, 0, 0⟩ : Reg))) := (hg.cell_far ⟨G, 0, none⟩ hG3 (fun h => HW.out.2.2.2.2 G h.symm rfl)).trans (by go_simp)
            have z1 : w3.cell? ⟨G, 1, none⟩ = some (.int .u32 (Reg.ln (⟨(4294963200 - L) % 4294967296, L, q1, q2, q3, q4, none, 0, 0⟩ : Reg))) := (hg.cell_far ⟨G, 1, none⟩ hG3 (fun h => HW.out.2.2.2.2 G h.symm rfl)).trans (by go_simp)
            simp only at z0 z1
            have HR : Hid (∀ z : Int, 0 ≤ z → z ≤ 4294967295 → someRel w n1 v' (.int .u32 z) (.int .i64 ((k : Int) + 1)) w3) := fun z hz0 hz1 =>
              some_next (⟨(4294963200 - L) % 4294967296, L, q1, q2, q3, q4, none, 0, 0⟩ : Reg) hk1 hlen HW.out.2.1 (by refine ⟨?_, ?_, ?_, ?_, ?_⟩ <;> simp only [] <;> first | omega | (rw [IntKind.wrap_u32]; omega)) (HW.out.1.setCell hGw.out _) (fun g h => HO.out g h) ho' hg hz0 hz1
            clear ho' hg hG3 HW HO HB d0 d1 d2 d3 d4 d5 d6 fz e3 e4
            go_wp2
            go_roundw
            case rel => exact HR.out _ (by first | omega | exact (wrapB _).1) (by first | omega | exact (wrapB _).2)
            case measure =>
              show n1 - ((k : Int) + 1).toNat < n1 - (k : Int).toNat
              omega
          have h0' : (t3 == 0) = false := by simpa using h0
          have h1' : (t3 == 1) = false := by simpa using h1
          have h2' : (t3 == 2) = false := by simpa using h2
          have h3' : (t3 == 3) = false := by simpa using h3
          have h4' : (t3 == 4) = false := by simpa using h4
          have hGW : G < W.heap.size := HW.out.2.2.2.1
          go_wp2_with (first
            | (at_builtin; refine wpList_append_own _ rfl _ _ 22 rfl w.heap.size 36 i0 _ 7 40 Try.underlying22 HI.out.1 HI.out.2.1 HI.out.2.2.1 HI.out.2.2.2 rfl (by decide) u5 k (cellsOf rs) rfl ((ownsRow_of_block (w' := W) HW.out.2.2.1 (fun g hg => rfl)).alloc _) ⟨W.heap.size, 0, none⟩ 1 1 (Reg.cells (⟨F, L, q1, q2, q3, q4, none, 0, 0⟩ : Reg)) rfl rfl (new_cells_at (W) (⟨F, L, q1, q2, q3, q4, none, 0, 0⟩ : Reg) W.heap.size (by simp)) (one_cells _) (by simp only [maxLen]; omega) (by omega) (by rw [alloc_size']; exact Nat.le_succ_of_le (HW.out.1).size) ?_)
            | fail)
          intro v' w3 ho' hg _
          have hG3 : G < ((W).alloc (Obj.cells #[.int .u32 (Reg.fr (⟨F, L, q1, q2, q3, q4, none, 0, 0⟩ : Reg)), .int .u32 (Reg.ln (⟨F, L, q1, q2, q3, q4, none, 0, 0⟩ : Reg)), .bool (Reg.rd (⟨F, L, q1, q2, q3, q4, none, 0, 0⟩ : Reg)), .bool (Reg.wr (⟨F, L, q1, q2, q3, q4, none, 0, 0⟩ : Reg)), .bool (Reg.ex (⟨F, L, q1, q2, q3, q4, none, 0, 0⟩ : Reg)), .bool (Reg.se (⟨F, L, q1, q2, q3, q4, none, 0, 0⟩ : Reg)), .slice (Reg.ba (⟨F, L, q1, q2, q3, q4, none, 0, 0⟩ : Reg)) (Reg.bl (⟨F, L, q1, q2, q3, q4, none, 0, 0⟩ : Reg)) (Reg.bc (⟨F, L, q1, q2, q3, q4, none, 0, 0⟩ : Reg))] 36)).heap.size := by rw [alloc_size']; first | omega | (simp; omega)
          have z0 : w3.cell? ⟨G, 0, none⟩ = some (.int .u32 (Reg.fr (⟨F, L, q1, q2, q3, q4, none, 0, 0⟩ : Reg))) := (hg.cell_far ⟨G, 0, none⟩ hG3 (fun h => HW.out.2.2.2.2 G h.symm rfl)).trans (by go_simp)
          have z1 : w3.cell? ⟨G, 1, none⟩ = some (.int .u32 (Reg.ln (⟨F, L, q1, q2, q3, q4, none, 0, 0⟩ : Reg))) := (hg.cell_far ⟨G, 1, none⟩ hG3 (fun h => HW.out.2.2.2.2 G h.symm rfl)).trans (by go_simp)
          simp only at z0 z1
          have HR : Hid (∀ z : Int, 0 ≤ z → z ≤ 4294967295 → someRel w n1 v' (.int .u32 z) (.int .i64 ((k : Int) + 1)) w3) := fun z hz0 hz1 =>
            some_next (⟨F, L, q1, q2, q3, q4, none, 0, 0⟩ : Reg) hk1 hlen HW.out.2.1 (by refine ⟨?_, ?_, ?_, ?_, ?_⟩ <;> simp only [] <;> first | omega | (rw [IntKind.wrap_u32]; omega)) HW.out.1 (fun g h => HO.out g h) ho' hg hz0 hz1
          clear ho' hg hG3 HW HO HB d0 d1 d2 d3 d4 d5 d6 fz e3 e4
          go_wp2
          go_roundw
          case rel => exact HR.out _ (by first | omega | exact (wrapB _).1) (by first | omega | exact (wrapB _).2)
          case measure =>
            show n1 - ((k : Int) + 1).toNat < n1 - (k : Int).toNat
            omega
        · have hf8' : decide (0 < bits .and .u8 t0 8) = false := by simpa using hf8
          go_wp2_with fail
          go_big_region
          clear hf8 hf8'
          generalize hFe : (y + t1 * 4) % 4294967296 = F at *
          generalize hLe : (t2 % 32 + 1) * 4 = L at *
          have F0 : 0 ≤ F := by omega
          have F1 : F ≤ 4294967295 := by omega
          have L0 : 0 ≤ L := by omega
          have L1 : L ≤ 4294967295 := by omega
          clear hFe hLe hbw hbw2
          generalize decide (0 < bits BinOp.and IntKind.u8 t0 1) = q1 at *
          generalize decide (0 < bits BinOp.and IntKind.u8 t0 2) = q2 at *
          generalize decide (0 < bits BinOp.and IntKind.u8 t0 4) = q3 at *
          have HO : Hid (∀ g, u5.ownBlock = some g → w.heap.size ≤ g) := fun g h => (HB.out.2.2.1.lt g h).1
          have hAt : At7 (wr.alloc (Obj.cells #[.int .u32 F, .int .u32 L, .bool q1, .bool q2, .bool q3, .bool false, .slice none 0 0] 36)).drew wr.heap.size 0 ⟨F, L, q1, q2, q3, false, none, 0, 0⟩ := by
            refine ⟨?_, ?_, ?_, ?_, ?_, ?_, ?_⟩ <;> (rw [World.cell?_drew, World.cell?_alloc_new]; rfl)
          have fz : ∀ j, (wr.alloc (Obj.cells #[.int .u32 F, .int .u32 L, .bool q1, .bool q2, .bool q3, .bool false, .slice none 0 0] 36)).drew.frozen? ⟨wr.heap.size, j, none⟩ = false := fun j => World.frozen?_alloc_at _ _ _ _ rfl
          replace e3 : (wr.alloc (Obj.cells #[.int .u32 F, .int .u32 L, .bool q1, .bool q2, .bool q3, .bool false, .slice none 0 0] 36)).drew.cell? ⟨b, o + k * 4 + 3, none⟩ = some (.int .u8 t3) := ((((Below.refl wr.heap.size wr).alloc (Nat.le_refl _) _).drew).cell HB.out.2.2.2.1).trans e3
          replace e4 : (wr.alloc (Obj.cells #[.int .u32 F, .int .u32 L, .bool q1, .bool q2, .bool q3, .bool false, .slice none 0 0] 36)).drew.cell? ⟨b2, o2 + k, none⟩ = some (.int .u32 t4) := ((((Below.refl wr.heap.size wr).alloc (Nat.le_refl _) _).drew).cell HB.out.2.2.2.2).trans e4
          have HW : Hid (Below w.heap.size w (wr.alloc (Obj.cells #[.int .u32 F, .int .u32 L, .bool q1, .bool q2, .bool q3, .bool false, .slice none 0 0] 36)).drew ∧ (∀ r ∈ rs, r.wf) ∧ (wr.alloc (Obj.cells #[.int .u32 F, .int .u32 L, .bool q1, .bool q2, .bool q3, .bool false, .slice none 0 0] 36)).drew.ownsRow w.heap.size 36 7 u5 k (cellsOf rs) ∧
              wr.heap.size < (wr.alloc (Obj.cells #[.int .u32 F, .int .u32 L, .bool q1, .bool q2, .bool q3, .bool false, .slice none 0 0] 36)).drew.heap.size ∧ (∀ g, u5.ownBlock = some g → ¬ g = wr.heap.size)) :=
            ⟨(HB.out.1.alloc HB.out.1.size _).drew, HB.out.2.1, HB.out.2.2.1.alloc _, by show wr.heap.size < (wr.alloc _).heap.size; rw [alloc_size']; omega, fun g h => by have := (HB.out.2.2.1.lt g h).2; omega⟩
          have hGw : Hid (w.heap.size ≤ wr.heap.size) := HB.out.1.size
          generalize (wr.alloc (Obj.cells #[.int .u32 F, .int .u32 L, .bool q1, .bool q2, .bool q3, .bool false, .slice none 0 0] 36)).drew = W at *
          generalize wr.heap.size = G at *
          obtain ⟨d0, d1, d2, d3, d4, d5, d6⟩ := hAt
          simp only [Nat.zero_add] at d0 d1 d2 d3 d4 d5 d6
          clear e0 e1 e2
          by_cases h0 : t3 = 0
          · subst h0
            have hGW : G < W.heap.size := HW.out.2.2.2.1
            go_wp2_with (first
              | (at_builtin; refine wpList_append_own _ rfl _ _ 22 rfl w.heap.size 36 i0 _ 7 40 Try.underlying22 HI.out.1 HI.out.2.1 HI.out.2.2.1 HI.out.2.2.2 rfl (by decide) u5 k (cellsOf rs) rfl ((ownsRow_of_block (w' := (W.setCell ⟨G, 0, none⟩ (.int .u32 t4))) HW.out.2.2.1 (fun g hg => (Below.heap_setCell _ ⟨G, _, none⟩ _ g (HW.out.2.2.2.2 g hg)))).alloc _) ⟨W.heap.size, 0, none⟩ 1 1 (Reg.cells (⟨t4, L, q1, q2, q3, false, none, 0, 0⟩ : Reg)) rfl rfl (new_cells_at ((W.setCell ⟨G, 0, none⟩ (.int .u32 t4))) (⟨t4, L, q1, q2, q3, false, none, 0, 0⟩ : Reg) W.heap.size (by simp)) (one_cells _) (by simp only [maxLen]; omega) (by omega) (by rw [alloc_size']; exact Nat.le_succ_of_le ((HW.out.1.setCell hGw.out _)).size) ?_)
              | fail)
            intro v' w3 ho' hg _
            have hG3 : G < (((W.setCell ⟨G, 0, none⟩ (.int .u32 t4))).alloc (Obj.cells #[.int .u32 (Reg.fr (⟨t4, L, q1, q2, q3, false, none, 0, 0⟩ : Reg)), .int .u32 (Reg.ln (⟨t4, L, q1, q2, q3, false, none, 0, 0⟩ : Reg)), .bool (Reg.rd (⟨t4, L, q1, q2, q3, false, none, 0, 0⟩ : Reg)), .bool (Reg.wr (⟨t4, L, q1, q2, q3, false, none, 0, 0⟩ : Reg)), .bool (Reg.ex (⟨t4, L, q1, q2, q3, false, none, 0, 0⟩ : Reg)), .bool (Reg.se (⟨t4, L, q1, q2, q3, false, none, 0, 0⟩ : Reg)), .slice (Reg.ba (⟨t4, L, q1, q2, q3, false, none, 0, 0⟩ : Reg)) (Reg.bl (⟨t4, L, q1, q2, q3, false, none, 0, 0⟩ : Reg)) (Reg.bc (⟨t4, L, q1, q2, q3, false, none, 0, 0⟩ : Reg))] 36)).heap.size := by rw [alloc_size']; first | omega | (simp; omega)
            have z0 : w3.cell? ⟨G, 0, none⟩ = some (.int .u32 (Reg.fr (⟨t4, L, q1, q2, q3, false, none, 0, 0⟩ : Reg))) := (hg.cell_far ⟨G, 0, none⟩ hG3 (fun h => HW.out.2.2.2.2 G h.symm rfl)).trans (by go_simp)
            have z1 : w3.cell? ⟨G, 1, none⟩ = some (.int .u32 (Reg.ln (⟨t4, L, q1, q2, q3, false, none, 0, 0⟩ : Reg))) := (hg.cell_far ⟨G, 1, none⟩ hG3 (fun h => HW.out.2.2.2.2 G h.symm rfl)).trans (by go_simp)
            simp only at z0 z1
            have HR : Hid (∀ z : Int, 0 ≤ z → z ≤ 4294967295 → someRel w n1 v' (.int .u32 z) (.int .i64 ((k : Int) + 1)) w3) := fun z hz0 hz1 =>
              some_next (⟨t4, L, q1, q2, q3, false, none, 0, 0⟩ : Reg) hk1 hlen HW.out.2.1 (by refine ⟨?_, ?_, ?_, ?_, ?_⟩ <;> simp only [] <;> first | omega | (rw [IntKind.wrap_u32]; omega)) (HW.out.1.setCell hGw.out _) (fun g h => HO.out g h) ho' hg hz0 hz1
            clear ho' hg hG3 HW HO HB d0 d1 d2 d3 d4 d5 d6 fz e3 e4
            go_wp2
            go_roundw
            case rel => exact HR.out _ (by first | omega | exact (wrapB _).1) (by first | omega | exact (wrapB _).2)
            case measure =>
              show n1 - ((k : Int) + 1).toNat < n1 - (k : Int).toNat
              omega
          by_cases h1 : t3 = 1
          · subst h1
            have hGW : G < W.heap.size := HW.out.2.2.2.1
            go_wp2_with (first
              | (at_builtin; refine wpList_append_own _ rfl _ _ 22 rfl w.heap.size 36 i0 _ 7 40 Try.underlying22 HI.out.1 HI.out.2.1 HI.out.2.2.1 HI.out.2.2.2 rfl (by decide) u5 k (cellsOf rs) rfl ((ownsRow_of_block (w' := (W.setCell ⟨G, 1, none⟩ (.int .u32 t4))) HW.out.2.2.1 (fun g hg => (Below.heap_setCell _ ⟨G, _, none⟩ _ g (HW.out.2.2.2.2 g hg)))).alloc _) ⟨W.heap.size, 0, none⟩ 1 1 (Reg.cells (⟨F, t4, q1, q2, q3, false, none, 0, 0⟩ : Reg)) rfl rfl (new_cells_at ((W.setCell ⟨G, 1, none⟩ (.int .u32 t4))) (⟨F, t4, q1, q2, q3, false, none, 0, 0⟩ : Reg) W.heap.size (by simp)) (one_cells _) (by simp only [maxLen]; omega) (by omega) (by rw [alloc_size']; exact Nat.le_succ_of_le ((HW.out.1.setCell hGw.out _)).size) ?_)
              | fail)
            intro v' w3 ho' hg _
            have hG3 : G < (((W.setCell ⟨G, 1, none⟩ (.int .u32 t4))).alloc (Obj.cells #[.int .u32 (Reg.fr (⟨F, t4, q1, q2, q3, false, none, 0, 0⟩ : Reg)), .int .u32 (Reg.ln (⟨F, t4, q1, q2, q3, false, none, 0, 0⟩ : Reg)), .bool (Reg.rd (⟨F, t4, q1, q2, q3, false, none, 0, 0⟩ : Reg)), .bool (Reg.wr (⟨F, t4, q1, q2, q3, false, none, 0, 0⟩ : Reg)), .bool (Reg.ex (⟨F, t4, q1, q2, q3, false, none, 0, 0⟩ : Reg)), .bool (Reg.se (⟨F, t4, q1, q2, q3, false, none, 0, 0⟩ : Reg)), .slice (Reg.ba (⟨F, t4, q1, q2, q3, false, none, 0, 0⟩ : Reg)) (Reg.bl (⟨F, t4, q1, q2, q3, false, none, 0, 0⟩ : Reg)) (Reg.bc (⟨F, t4, q1, q2, q3, false, none, 0, 0⟩ : Reg))] 36)).heap.size := by rw [alloc_size']; first | omega | (simp; omega)
            have z0 : w3.cell? ⟨G, 0, none⟩ = some (.int .u32 (Reg.fr (⟨F, t4, q1, q2, q3, false, none, 0, 0⟩ : Reg))) := (hg.cell_far ⟨G, 0, none⟩ hG3 (fun h => HW.out.2.2.2.2 G h.symm rfl)).trans (by go_simp)
            have z1 : w3.cell? ⟨G, 1, none⟩ = some (.int .u32 (Reg.ln (⟨F, t4, q1, q2, q3, false, none, 0, 0⟩ : Reg))) := (hg.cell_far ⟨G, 1, none⟩ hG3 (fun h => HW.out.2.2.2.2 G h.symm rfl)).trans (by go_simp)
            simp only at z0 z1
            have HR : Hid (∀ z : Int, 0 ≤ z → z ≤ 4294967295 → someRel w n1 v' (.int .u32 z) (.int .i64 ((k : Int) + 1)) w3) := fun z hz0 hz1 =>
              some_next (⟨F, t4, q1, q2, q3, false, none, 0, 0⟩ : Reg) hk1 hlen HW.out.2.1 (by refine ⟨?_, ?_, ?_, ?_, ?_⟩ <;> simp only [] <;> first | omega | (rw [IntKind.wrap_u32]; omega)) (HW.out.1.setCell hGw.out _) (fun g h => HO.out g h) ho' hg hz0 hz1
            clear ho' hg hG3 HW HO HB d0 d1 d2 d3 d4 d5 d6 fz e3 e4
            go_wp2
            go_roundw
            case rel => exact HR.out _ (by first | omega | exact (wrapB _).1) (by first | omega | exact (wrapB _).2)
            case measure =>
              show n1 - ((k : Int) + 1).toNat < n1 - (k : Int).toNat
              omega
          by_cases h2 : t3 = 2
          · subst h2
            have hGW : G < W.heap.size := HW.out.2.2.2.1
            go_wp2_with (first
              | (at_builtin; refine wpList_append_own _ rfl _ _ 22 rfl w.heap.size 36 i0 _ 7 40 Try.underlying22 HI.out.1 HI.out.2.1 HI.out.2.2.1 HI.out.2.2.2 rfl (by decide) u5 k (cellsOf rs) rfl ((ownsRow_of_block (w' := (W.setCell ⟨G, 0, none⟩ (.int .u32 ((F + 1) % 4294967296)))) HW.out.2.2.1 (fun g hg => (Below.heap_setCell _ ⟨G, _, none⟩ _ g (HW.out.2.2.2.2 g hg)))).alloc _) ⟨W.heap.size, 0, none⟩ 1 1 (Reg.cells (⟨(F + 1) % 4294967296, L, q1, q2, q3, false, none, 0, 0⟩ : Reg)) rfl rfl (new_cells_at ((W.setCell ⟨G, 0, none⟩ (.int .u32 ((F + 1) % 4294967296)))) (⟨(F + 1) % 4294967296, L, q1, q2, q3, false, none, 0, 0⟩ : Reg) W.heap.size (by simp)) (one_cells _) (by simp only [maxLen]; omega) (by omega) (by rw [alloc_size']; exact Nat.le_succ_of_le ((HW.out.1.setCell hGw.out _)).size) ?_)
              | fail)
            intro v' w3 ho' hg _
            have hG3 : G < (((W.setCell ⟨G, 0, none⟩ (.int .u32 ((F + 1) % 4294967296)))).alloc (Obj.cells #[.int .u32 (Reg.fr (⟨(F + 1) % 4294967296, L, q1, q2, q3, false, none, 0, 0⟩ : Reg)), .int .u32 (Reg.ln (⟨(F + 1) % 4294967296, L, q1, q2, q3, false, none, 0, 0⟩ : Reg)), .bool (Reg.rd (⟨(F + 1) % 4294967296, L, q1, q2, q3, false, none, 0, 0⟩ : Reg)), .bool (Reg.wr (⟨(F + 1) % 4294967296, L, q1, q2, q3, false, none, 0, 0⟩ : Reg)), .bool (Reg.ex (⟨(F + 1) % 4294967296, L, q1, q2, q3, false, none, 0, 0⟩ : Reg)), .bool (Reg.se (⟨(F + 1) % 4294967296, L, q1, q2, q3, false, none, 0, 0⟩ : Reg)), .slice (Reg.ba (⟨(F + 1) % 4294967296, L, q1, q2, q3, false, none, 0, 0⟩ : Reg)) (Reg.bl (⟨(F + 1) % 4294967296, L, q1, q2, q3, false, none, 0, 0⟩ : Reg)) (Reg.bc (⟨(F + 1) % 4294967296, L, q1, q2, q3, false, none, 0, 0⟩ : Reg))] 36)).heap.size := by rw [alloc_size']; first | omega | (simp; omega)
            have z0 : w3.cell? ⟨G, 0, none⟩ = some (.int .u32 (Reg.fr (⟨(F + 1) % 4294967296, L, q1, q2, q3, false, none, 0, 0⟩ : Reg))) := (hg.cell_far ⟨G, 0, none⟩ hG3 (fun h => HW.out.2.2.2.2 G h.symm rfl)).trans (by go_simp)
            have z1 : w3.cell? ⟨G, 1, none⟩ = some (.int .u32 (Reg.ln (⟨(F + 1) % 4294967296, L, q1, q2, q3, false, none, 0, 0⟩ : Reg))) := (hg.cell_far ⟨G, 1, none⟩ hG3 (fun h => HW.out.2.2.2.2 G h.symm rfl)).trans (by go_simp)
            simp only at z0 z1
            have HR : Hid (∀ z : Int, 0 ≤ z → z ≤ 4294967295 → someRel w n1 v' (.int .u32 z) (.int .i64 ((k : Int) + 1)) w3) := fun z hz0 hz1 =>
              some_next (⟨(F + 1) % 4294967296, L, q1, q2, q3, false, none, 0, 0⟩ : Reg) hk1 hlen HW.out.2.1 (by refine ⟨?_, ?_, ?_, ?_, ?_⟩ <;> simp only [] <;> first | omega | (rw [IntKind.wrap_u32]; omega)) (HW.out.1.setCell hGw.out _) (fun g h => HO.out g h) ho' hg hz0 hz1
            clear ho' hg hG3 HW HO HB d0 d1 d2 d3 d4 d5 d6 fz e3 e4
            go_wp2
            go_roundw
            case rel => exact HR.out _ (by first | omega | exact (wrapB _).1) (by first | omega | exact (wrapB _).2)
            case measure =>
              show n1 - ((k : Int) + 1).toNat < n1 - (k : Int).toNat
              omega
          by_cases h3 : t3 = 3
          · subst h3
            have hGW : G < W.heap.size := HW.out.2.2.2.1
            go_wp2_with (first
              | (at_builtin; refine wpList_append_own _ rfl _ _ 22 rfl w.heap.size 36 i0 _ 7 40 Try.underlying22 HI.out.1 HI.out.2.1 HI.out.2.2.1 HI.out.2.2.2 rfl (by decide) u5 k (cellsOf rs) rfl ((ownsRow_of_block (w' := ((W.setCell ⟨G, 5, none⟩ (.bool true)).setCell ⟨G, 4, none⟩ (.bool true))) HW.out.2.2.1 (fun g hg => ((Below.heap_setCell _ ⟨G, _, none⟩ _ g (HW.out.2.2.2.2 g hg))).trans (Below.heap_setCell _ ⟨G, _, none⟩ _ g (HW.out.2.2.2.2 g hg)))).alloc _) ⟨W.heap.size, 0, none⟩ 1 1 (Reg.cells (⟨F, L, q1, q2, true, true, none, 0, 0⟩ : Reg)) rfl rfl (new_cells_at (((W.setCell ⟨G, 5, none⟩ (.bool true)).setCell ⟨G, 4, none⟩ (.bool true))) (⟨F, L, q1, q2, true, true, none, 0, 0⟩ : Reg) W.heap.size (by simp)) (one_cells _) (by simp only [maxLen]; omega) (by omega) (by rw [alloc_size']; exact Nat.le_succ_of_le (((HW.out.1.setCell hGw.out _).setCell hGw.out _)).size) ?_)
              | fail)
            intro v' w3 ho' hg _
            have hG3 : G < ((((W.setCell ⟨G, 5, none⟩ (.bool true)).setCell ⟨G, 4, none⟩ (.bool true))).alloc (Obj.cells #[.int .u32 (Reg.fr (⟨F, L, q1, q2, true, true, none, 0, 0⟩ : Reg)), .int .u32 (Reg.ln (⟨F, L, q1, q2, true, true, none, 0, 0⟩ : Reg)), .bool (Reg.rd (⟨F, L, q1, q2, true, true, none, 0, 0⟩ : Reg)), .bool (Reg.wr (⟨F, L, q1, q2, true, true, none, 0, 0⟩ : Reg)), .bool (Reg.ex (⟨F, L, q1, q2, true, true, none, 0, 0⟩ : Reg)), .bool (Reg.se (⟨F, L, q1, q2, true, true, none, 0, 0⟩ : Reg)), .slice (Reg.ba (⟨F, L, q1, q2, true, true, none, 0, 0⟩ : Reg)) (Reg.bl (⟨F, L, q1, q2, true, true, none, 0, 0⟩ : Reg)) (Reg.bc (⟨F, L, q1, q2, true, true, none, 0, 0⟩ : Reg))] 36)).heap.size := by rw [alloc_size']; first | omega | (simp; omega)
            have z0 : w3.cell? ⟨G, 0, none⟩ = some (.int .u32 (Reg.fr (⟨F, L, q1, q2, true, true, none, 0, 0⟩ : Reg))) := (hg.cell_far ⟨G, 0, none⟩ hG3 (fun h => HW.out.2.2.2.2 G h.symm rfl)).trans (by go_simp)
            have z1 : w3.cell? ⟨G, 1, none⟩ = some (.int .u32 (Reg.ln (⟨F, L, q1, q2, true, true, none, 0, 0⟩ : Reg))) := (hg.cell_far ⟨G, 1, none⟩ hG3 (fun h => HW.out.2.2.2.2 G h.symm rfl)).trans (by go_simp)
            simp only at z0 z1
            have HR : Hid (∀ z : Int, 0 ≤ z → z ≤ 4294967295 → someRel w n1 v' (.int .u32 z) (.int .i64 ((k : Int) + 1)) w3) := fun z hz0 hz1 =>
              some_next (⟨F, L, q1, q2, true, true, none, 0, 0⟩ : Reg) hk1 hlen HW.out.2.1 (by refine ⟨?_, ?_, ?_, ?_, ?_⟩ <;> simp only [] <;> first | omega | (rw [IntKind.wrap_u32]; omega)) ((HW.out.1.setCell hGw.out _).setCell hGw.out _) (fun g h => HO.out g h) ho' hg hz0 hz1
            clear ho' hg hG3 HW HO HB d0 d1 d2 d3 d4 d5 d6 fz e3 e4
            go_wp2
            go_roundw
            case rel => exact HR.out _ (by first | omega | exact (wrapB _).1) (by first | omega | exact (wrapB _).2)
            case measure =>
              show n1 - ((k : Int) + 1).toNat < n1 - (k : Int).toNat
              omega
          by_cases h4 : t3 = 4
          · subst h4
            have hGW : G < W.heap.size := HW.out.2.2.2.1
            go_wp2_with (first
              | (at_builtin; refine wpList_append_own _ rfl _ _ 22 rfl w.heap.size 36 i0 _ 7 40 Try.underlying22 HI.out.1 HI.out.2.1 HI.out.2.2.1 HI.out.2.2.2 rfl (by decide) u5 k (cellsOf rs) rfl ((ownsRow_of_block (w' := (W.setCell ⟨G, 0, none⟩ (.int .u32 ((4294963200 - L) % 4294967296)))) HW.out.2.2.1 (fun g hg => (Below.heap_setCell _ ⟨G, _, none⟩ _ g (HW.out.2.2.2.2 g hg)))).alloc _) ⟨W.heap.size, 0, none⟩ 1 1 (Reg.cells (⟨(4294963200 - L) % 4294967296, L, q1, q2, q3, false, none, 0, 0⟩ : Reg)) rfl rfl (new_cells_at ((W.setCell ⟨G, 0, none⟩ (.int .u32 ((4294963200 - L) % 4294967296)))) (⟨(4294963200 - L) % 4294967296, L, q1, q2, q3, false, none, 0, 0⟩ : Reg) W.heap.size (by simp)) (one_cells _) (by simp only [maxLen]; omega) (by omega) (by rw [alloc_size']; exact Nat.le_succ_of_le ((HW.out.1.setCell hGw.out _)).size) ?_)
              | fail)
            intro v' w3 ho' hg _
            have hG3 : G < (((W.setCell ⟨G, 0, none⟩ (.int .u32 ((4294963200 - L) % 4294967296)))).alloc (Obj.cells #[.int .u32 (Reg.fr (⟨(4294963200 - L) % 4294967296, L, q1, q2, q3, false, none, 0, 0⟩ : Reg)), .int .u32 (Reg.ln (⟨(4294963200 - L) % 4294967296, L, q1, q2, q3, false, none, 0, 0⟩ : Reg)), .bool (Reg.rd (⟨(4294963200 - L) % 4294967296, L, q1, q2, q3, false, none, 0, 0⟩ : Reg)), .bool (Reg.wr (⟨(4294963200 - L) % 4294967296, L, q1, q2, q3, false, none, 0, 0⟩ : Reg)), .bool (Reg.ex (⟨(4294963200 - L) % 4294967296, L, q1, q2, q3, false, none, 0, 0⟩ : Reg)), .bool (Reg.se (⟨(4294963200 - L) % 4294967296, L, q1, q2, q3, false, none, 0, 0⟩ : Reg)), .slice (Reg.ba (⟨(4294963200 - L) % 4294967296, L, q1, q2, q3, false, none, 0, 0⟩ : Reg)) (Reg.bl (⟨(4294963200 - L) % 4294967296, L, q1, q2, q3, false, none, 0, 0⟩ : Reg)) (Reg.bc (⟨(4294963200 - L) % 4294967296, L, q1, q2, q3, false, none, 0, 0⟩ : Reg))] 36)).heap.size := by rw [alloc_size']; first | omega | (simp; omega)
            have z0 : w3.cell? ⟨G, 0, none⟩ = some (.int .u32 (Reg.fr (⟨(4294963200 - L) % 4294967296, L, q1, q2, q3, false, none, 0, 0⟩ : Reg))) := (hg.cell_far ⟨G, 0, none⟩ hG3 (fun h => HW.out.2.2.2.2 G h.symm rfl)).trans (by go_simp)
            have z1 : w3.cell? ⟨G, 1, none⟩ = some (.int .u32 (Reg.ln (⟨(4294963200 - L) % 4294967296, L, q1, q2, q3, false, none, 0, 0⟩ : Reg))) := (hg.cell_far ⟨G, 1, none⟩ hG3 (fun h => HW.out.2.2.2.2 G h.symm rfl)).trans (by go_simp)
            simp only at z0 z1
            have HR : Hid (∀ z : Int, 0 ≤ z → z ≤ 4294967295 → someRel w n1 v' (.int .u32 z) (.int .i64 ((k : Int) + 1)) w3) := fun z hz0 hz1 =>
              some_next (⟨(4294963200 - L) % 4294967296, L, q1, q2, q3, false, none, 0, 0⟩ : Reg) hk1 hlen HW.out.2.1 (by refine ⟨?_, ?_, ?_, ?_, ?_⟩ <;> simp only [] <;> first | omega | (rw [IntKind.wrap_u32]; omega)) (HW.out.1.setCell hGw.out _) (fun g h => HO.out g h) ho' hg hz0 hz1
            clear ho' hg hG3 HW HO HB d0 d1 d2 d3 d4 d5 d6 fz e3 e4
            go_wp2
            go_roundw
            case rel => exact HR.out _ (by first | omega | exact (wrapB _).1) (by first | omega | exact (wrapB _).2)
            case measure =>
              show n1 - ((k : Int) + 1).toNat < n1 - (k : Int).toNat
              omega
          have h0' : (t3 == 0) = false := by simpa using h0
          have h1' : (t3 == 1) = false := by simpa using h1
          have h2' : (t3 == 2) = false := by simpa using h2
          have h3' : (t3 == 3) = false := by simpa using h3
          have h4' : (t3 == 4) = false := by simpa using h4
          have hGW : G < W.heap.size := HW.out.2.2.2.1
          go_wp2_with (first
            | (at_builtin; refine wpList_append_own _ rfl _ _ 22 rfl w.heap.size 36 i0 _ 7 40 Try.underlying22 HI.out.1 HI.out.2.1 HI.out.2.2.1 HI.out.2.2.2 rfl (by decide) u5 k (cellsOf rs) rfl ((ownsRow_of_block (w' := W) HW.out.2.2.1 (fun g hg => rfl)).alloc _) ⟨W.heap.size, 0, none⟩ 1 1 (Reg.cells (⟨F, L, q1, q2, q3, false, none, 0, 0⟩ : Reg)) rfl rfl (new_cells_at (W) (⟨F, L, q1, q2, q3, false, none, 0, 0⟩ : Reg) W.heap.size (by simp)) (one_cells _) (by simp only [maxLen]; omega) (by omega) (by rw [alloc_size']; exact Nat.le_succ_of_le (HW.out.1).size) ?_)
            | fail)
          intro v' w3 ho' hg _
          have hG3 : G < ((W).alloc (Obj.cells #[.int .u32 (Reg.fr (⟨F, L, q1, q2, q3, false, none, 0, 0⟩ : Reg)), .int .u32 (Reg.ln (⟨F, L, q1, q2, q3, false, none, 0, 0⟩ : Reg)), .bool (Reg.rd (⟨F, L, q1, q2, q3, false, none, 0, 0⟩ : Reg)), .bool (Reg.wr (⟨F, L, q1, q2, q3, false, none, 0, 0⟩ : Reg)), .bool (Reg.ex (⟨F, L, q1, q2, q3, false, none, 0, 0⟩ : Reg)), .bool (Reg.se (⟨F, L, q1, q2, q3, false, none, 0, 0⟩ : Reg)), .slice (Reg.ba (⟨F, L, q1, q2, q3, false, none, 0, 0⟩ : Reg)) (Reg.bl (⟨F, L, q1, q2, q3, false, none, 0, 0⟩ : Reg)) (Reg.bc (⟨F, L, q1, q2, q3, false, none, 0, 0⟩ : Reg))] 36)).heap.size := by rw [alloc_size']; first | omega | (simp; omega)
          have z0 : w3.cell? ⟨G, 0, none⟩ = some (.int .u32 (Reg.fr (⟨F, L, q1, q2, q3, false, none, 0, 0⟩ : Reg))) := (hg.cell_far ⟨G, 0, none⟩ hG3 (fun h => HW.out.2.2.2.2 G h.symm rfl)).trans (by go_simp)
          have z1 : w3.cell? ⟨G, 1, none⟩ = some (.int .u32 (Reg.ln (⟨F, L, q1, q2, q3, false, none, 0, 0⟩ : Reg))) := (hg.cell_far ⟨G, 1, none⟩ hG3 (fun h => HW.out.2.2.2.2 G h.symm rfl)).trans (by go_simp)
          simp only at z0 z1
          have HR : Hid (∀ z : Int, 0 ≤ z → z ≤ 4294967295 → someRel w n1 v' (.int .u32 z) (.int .i64 ((k : Int) + 1)) w3) := fun z hz0 hz1 =>
            some_next (⟨F, L, q1, q2, q3, false, none, 0, 0⟩ : Reg) hk1 hlen HW.out.2.1 (by refine ⟨?_, ?_, ?_, ?_, ?_⟩ <;> simp only [] <;> first | omega | (rw [IntKind.wrap_u32]; omega)) HW.out.1 (fun g h => HO.out g h) ho' hg hz0 hz1
          clear ho' hg hG3 HW HO HB d0 d1 d2 d3 d4 d5 d6 fz e3 e4
          go_wp2
          go_roundw
          case rel => exact HR.out _ (by first | omega | exact (wrapB _).1) (by first | omega | exact (wrapB _).2)
          case measure =>
            show n1 - ((k : Int) + 1).toNat < n1 - (k : Int).toNat
            omega
      · have hk1' : (k : Int) < n1 := by omega
        have hk2' : ¬ (k : Int) < n2 := by omega
        obtain ⟨A, c, rfl, hl⟩ := lies_own ho hlen hwf
        have HE : Hid (Lies wr A k (regAt rs) ∧ Below w.heap.size w wr) := ⟨hl, hb⟩
        clear hl hb ho hwf
        go_wp2
        go_ret
        exact ⟨A, k, c, regAt rs, rfl, hk, HE.out.1, HE.out.2⟩
    · have hk1' : ¬ (k : Int) < n1 := by omega
      obtain ⟨A, c, rfl, hl⟩ := lies_own ho hlen hwf
      have HE : Hid (Lies wr A k (regAt rs) ∧ Below w.heap.size w wr) := ⟨hl, hb⟩
      clear hl hb ho hwf
      go_wp2
      go_ret
      exact ⟨A, k, c, regAt rs, rfl, hk, HE.out.1, HE.out.2⟩
end Go.Proofs.Ytfeebbeailmieaa
