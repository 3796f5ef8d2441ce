/- copyBytes and filled, walked. -/
import Derived.Test.YteflboidbogegaaMem0
namespace Go.Proofs.Yteflboidbogegaa
open Go.ChangeShapes Go.WideShapes Go.ChangeAt Go.RowKit
set_option linter.unusedVariables false
set_option linter.unusedSimpArgs false
attribute [local go_sem ↓] Go.wp_at_zero Go.wp_at_succ

theorem infoByte : (Try.prog.info? 5).map (fun i => (i.zero, i.size, i.bytes)) = some (some (.int .u8 0), 1, 1) := by kernel_rfl

/-- A new row of bytes comes back. -/
def OwnPost (w : World) (bs : List Int) (e : Ending) (w' : World) : Prop :=
  ∃ A c, e = .returned (.slice A bs.length c) ∧ w'.ownsRow w.heap.size 5 1 (.slice A bs.length c) bs.length (cb bs) ∧ Below w.heap.size w w'

theorem own_mono {w : World} {base base' : Nat} {e : TypeId} {size : Nat} {v : Value} {n : Nat} {xs : List Value} (h : w.ownsRow base e size v n xs) (hb : base' ≤ base) : w.ownsRow base' e size v n xs :=
  ⟨h.1, h.2.imp id fun ⟨g, cap, cur, h1, h2, h3⟩ => ⟨g, cap, cur, h1, Nat.le_trans hb h2, h3⟩⟩
theorem own_shape {w : World} {base : Nat} {e : TypeId} {v : Value} {n : Nat} {xs : List Value} (h : w.ownsRow base e 1 v n xs) : ∃ A c, v = .slice A n c := by
  obtain ⟨_, ⟨rfl, rfl⟩ | ⟨g, cap, cur, rfl, _⟩⟩ := h
  · exact ⟨none, 0, rfl⟩
  · exact ⟨_, _, rfl⟩

set_option maxHeartbeats 1000000 in
theorem copyBytes_c (v : Value) (bs : List Int) (S : Nat → Prop) (w : World) (h : BL w S v bs) (hn : bs.length ≤ 140737488355328) :
    Calls Try.prog 81 #[v] w fun e w' => OwnPost w bs e w' := by
  obtain ⟨i0, hi, hz0, hz1, hz2⟩ := info_parts infoByte
  have H : Hid (BL w S v bs) := h
  obtain ⟨A, c, rfl, hA, _⟩ := h.2
  cases A with
  | none =>
    obtain ⟨rfl, rfl⟩ := hA rfl
    have HE : Hid (OwnPost w [] (.returned (.slice none 0 0)) w) := ⟨none, 0, rfl, World.ownsRow_nil _ _ _ _, Below.refl _ _⟩
    simp only [List.length_nil]
    clear hn hA h H
    go_enter Try.func81, Try.ntmps81
    go_wp2_with (at_builtin; refine wpList_append_own_none rfl _ _ 84 rfl w.heap.size 5 i0 1 Try.underlying84 hi _ 0 [] rfl (World.ownsRow_nil _ _ _ _) rfl ?_)
    go_wp2
    go_ret
    exact HE.out
  | some A =>
    clear hA h
    have HN : Hid (bs.length ≤ 140737488355328) := hn
    clear hn
    go_enter Try.func81, Try.ntmps81
    go_wp2_with (at_builtin; refine wpList_append_own _ rfl _ _ 84 rfl w.heap.size 5 i0 _ 1 1 Try.underlying84 hi hz0 hz1 hz2 rfl (by decide) _ 0 [] rfl (World.ownsRow_nil _ _ _ _) A bs.length c (cb bs) rfl (by rw [cb_length]; omega) H.out.news (cb_one _) (by have := HN.out; simp only [maxLen]; omega) (by have := HN.out; omega) (Nat.le_refl _) ?_)
    intro v' w1 hown hg _
    try simp only [Nat.zero_add, List.nil_append] at hown
    obtain ⟨A', c', rfl⟩ := own_shape hown
    have HE : Hid (OwnPost w bs (.returned (.slice A' bs.length c')) w1) := ⟨A', c', rfl, hown, Below.grown (Below.refl _ _) hg (Nat.le_refl _) (fun k hk => by simp [Value.ownBlock] at hk)⟩
    clear hown hg
    go_wp2
    go_ret
    exact HE.out

def fillS (ln : Int) (bs : List Int) : List Int := bs ++ List.replicate (ln.toNat - bs.length) 0
theorem fillS_length {ln : Int} {bs : List Int} (h0 : 0 ≤ ln) (h : (bs.length : Int) ≤ ln) : ((fillS ln bs).length : Int) = ln := by
  simp only [fillS, List.length_append, List.length_replicate]
  omega
theorem fillS_ok {ln : Int} {bs : List Int} (h : okB bs) : okB (fillS ln bs) := by
  intro x hx
  rcases List.mem_append.1 hx with h1 | h1
  · exact h x h1
  · rw [(List.mem_replicate.1 h1).2]; decide

/-- A row and noughts. -/
theorem filled_row {w : World} {base n k : Nat} {v : Value} {bs : List Int} (h : w.ownsRow base 5 1 v (n + k) (cb bs ++ List.replicate k (.int .u8 0))) (hn : n = bs.length) :
    w.ownsRow base 5 1 v (bs ++ List.replicate k 0).length (cb (bs ++ List.replicate k 0)) := by
  subst hn
  rw [List.length_append, List.length_replicate, cb_append, cb_zeros]
  exact h

set_option maxHeartbeats 4000000 in
set_option maxRecDepth 100000 in
theorem filled_c (r : Reg) (bs : List Int) (S : Nat → Prop) (w : World) (hr : r.wf) (hbl : r.bl = bs.length) (h : BL w S (.slice r.ba r.bl r.bc) bs) (hle : (r.bl : Int) ≤ r.ln) (hS : ∀ b, S b → b < w.heap.size) :
    Calls Try.prog 32 #[r.val] w fun e w' => OwnPost w (fillS r.ln bs) e w' := by
  obtain ⟨i0, hi, hz0, hz1, hz2⟩ := info_parts infoByte
  obtain ⟨fr, ln, rd, wr, ex, se, ba, bl, bc⟩ := r
  simp only at hbl h hle
  subst hbl
  obtain ⟨h1, h2, h3, h4, h5⟩ := hr
  simp only at h1 h2 h3 h4 h5
  simp only [Reg.val]
  obtain ⟨k, hk⟩ : ∃ k : Nat, ln = (bs.length : Int) + k := ⟨(ln - bs.length).toNat, by omega⟩
  have hks : fillS ln bs = bs ++ List.replicate k 0 := by unfold fillS; congr 2; omega
  rw [hks]
  subst hk
  have hin : bs.length + k ≤ 140737488355328 := by omega
  have hsub : (bs.length : Int) + k - bs.length = k := by omega
  have C : Hid (∀ (v : World), Below w.heap.size w v → Calls Try.prog 81 #[.slice ba bs.length bc] v fun e w' => OwnPost v bs e w') :=
    fun v hv => copyBytes_c _ bs S v (h.kept fun b hb hb' => hv.block b hb') (by omega)
  have HN : Hid (bs.length + k ≤ 140737488355328) := hin
  have hw1 : IntKind.i64.wrap ((bs.length : Int) + k) = (bs.length : Int) + k := by rw [IntKind.wrap_i64]; omega
  have hw2 : IntKind.i64.wrap (k : Int) = k := by rw [IntKind.wrap_i64]; omega
  clear hks h hin
  go_enter Try.func32, Try.ntmps32
  go_wp2_with fail
  obtain ⟨W, hW⟩ : ∃ W, W = w.alloc (Obj.cells #[.int .u32 fr, .int .u32 ((bs.length : Int) + k), .bool rd, .bool wr, .bool ex, .bool se, .slice ba bs.length bc] 86) := ⟨_, rfl⟩
  have c1 : W.cell? ⟨w.heap.size, 1, none⟩ = some (.int .u32 ((bs.length : Int) + k)) := by rw [hW, World.cell?_alloc_new]; rfl
  have c6 : W.cell? ⟨w.heap.size, 6, none⟩ = some (.slice ba bs.length bc) := by rw [hW, World.cell?_alloc_new]; rfl
  have HB : Hid (Below w.heap.size w W) := by rw [hW]; exact (Below.refl _ _).alloc (Nat.le_refl _) _
  have hsz : w.heap.size < W.heap.size := by rw [hW, alloc_size']; omega
  rw [← hW]
  clear hW
  go_region_held3 (fun w' => w'.cell? ⟨w.heap.size, 1, none⟩ = some (.int .u32 ((bs.length : Int) + k)) ∧ w'.cell? ⟨w.heap.size, 6, none⟩ = some (.slice ba bs.length bc))
    (first
      | go_keep
      | (go_split_ands; refine ⟨(hb2.cell hsz).trans ?_, (hb2.cell hsz).trans ?_⟩ <;> assumption)
      | (go_split_ands; refine ⟨(hgrow.cell_far _ (by have := hb2.size; simp at this ⊢; omega) (fun e => by have := (hown2.lt _ e.symm).1; simp at this; omega)).trans ?_, (hgrow.cell_far _ (by have := hb2.size; simp at this ⊢; omega) (fun e => by have := (hown2.lt _ e.symm).1; simp at this; omega)).trans ?_⟩ <;> assumption))
    (first
      | (go_at_call 81; refine (C.out _ HB.out.drew).mono ?_; rintro e w2 ⟨A2, c2, rfl, hown2, hb2⟩)
      | ((refine step_append_zeros _ (by rfl) _ _ _ _ (by rfl) W.heap.size 5 i0 _ .i64 .i64 Try.underlying84 Try.underlying3 hi hz0 hz1 hz2 rfl rfl _ bs.length (cb bs) (by rfl) hown2 k (by rfl) HN.out hb2.size ?_; intro v3 w3 hown3 hgrow hat)))
  obtain ⟨A3, c3, rfl⟩ := own_shape hown3
  have hb3 : Below w.heap.size w w3 := Below.grown (HB.out.drew.trans (hb2.mono (Nat.le_of_lt hsz))) hgrow (Nat.le_trans (Nat.le_of_lt hsz) hb2.size) (fun j hj => by have := (hown2.lt _ hj).1; simp at this; omega)
  have HE : Hid (OwnPost w (bs ++ List.replicate k 0) (.returned (.slice A3 (bs.length + k) c3)) w3) := by
    refine ⟨A3, c3, by simp, ?_, hb3⟩
    have h9 := filled_row (own_mono hown3 (Nat.le_of_lt hsz)) rfl
    have h8 : (bs ++ List.replicate k 0).length = bs.length + k := by simp
    rw [h8] at h9 ⊢
    exact h9
  clear hown3 hgrow hat hb3 hown2 hb2
  go_wp2
  go_ret
  exact HE.out
end Go.Proofs.Yteflboidbogegaa
