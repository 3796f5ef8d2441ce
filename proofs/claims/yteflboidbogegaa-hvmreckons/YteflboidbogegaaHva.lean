/- The events' row, the memory, and what is told of both while a run goes on. -/
import Derived.Test.YteflboidbogegaaHv9
import Derived.Deep.AppendLies
namespace Go.Proofs.Yteflboidbogegaa
open Go.ChangeShapes Go.WideShapes Go.ChangeAt Go.RowKit
set_option linter.unusedVariables false
set_option linter.unusedSimpArgs false

def HEv.cells (e : HEv) : List Value := [.int .i64 e.pc, .int .u32 e.ad, .int .i64 e.co]
def evC (E : List HEv) : List Value := E.flatMap HEv.cells
theorem evC_length (E : List HEv) : (evC E).length = E.length * 3 := by
  induction E with
  | nil => rfl
  | cons e E ih =>
    simp only [evC, List.flatMap_cons, List.length_append, List.length_cons] at ih ⊢
    rw [ih]
    simp [HEv.cells]
    omega
theorem evC_snoc (E : List HEv) (e : HEv) : evC (E ++ [e]) = evC E ++ e.cells := by simp [evC]
theorem ev_cells (e : HEv) : (Cel.ev e.pc e.ad e.co).cells = e.cells := rfl
theorem one_ev (e : HEv) : ∀ u ∈ e.cells, u.oneCell' = true := by
  intro u hu
  simp only [HEv.cells, List.mem_cons, List.not_mem_nil, or_false] at hu
  rcases hu with rfl | rfl | rfl <;> rfl
def EvRow (w : World) (base : Nat) (v : Value) (E : List HEv) : Prop := w.ownsRow base 61 3 v E.length (evC E)
theorem EvRow.kept {w w' : World} {base : Nat} {v : Value} {E : List HEv} (h : EvRow w base v E) (hb : ∀ g, v.ownBlock = some g → w'.heap[g]? = w.heap[g]?) : EvRow w' base v E := by
  refine ⟨h.1, ?_⟩
  rcases h.2 with h0 | ⟨g, cap, cur, rfl, hg, hh, rest⟩
  · exact .inl h0
  · exact .inr ⟨g, cap, cur, rfl, hg, (hb g rfl).trans hh, rest⟩
theorem EvRow.form {w : World} {base : Nat} {v : Value} {E : List HEv} (h : EvRow w base v E) : ∃ A c, v = .slice A E.length c := by
  rcases h.2 with ⟨h0, h1⟩ | ⟨g, cap, cur, h0, _⟩
  · exact ⟨none, 0, by rw [h0, h1]⟩
  · exact ⟨_, _, h0⟩
theorem infoEv : (Try.prog.info? 61).map (fun i => (i.zero, i.size, i.bytes)) = some (some (.agg #[.int .i64 0, .int .u32 0, .int .i64 0]), 3, 24) := by kernel_rfl
theorem ev_info : ∃ i : TypeInfo, Try.prog.info? 61 = some i ∧ i.zero = some (.agg #[.int .i64 0, .int .u32 0, .int .i64 0]) ∧ i.size = 3 ∧ i.bytes = 24 := by
  have h := infoEv
  cases hq : Try.prog.info? 61 with
  | none => rw [hq] at h; cases h
  | some i =>
    rw [hq] at h
    simp only [Option.map_some, Option.some.injEq, Prod.mk.injEq] at h
    exact ⟨i, rfl, h.1, h.2.1, h.2.2⟩

/-- What is told of the memory and of the events, while a run goes on. -/
def runZ (pm l0 lo hi : Nat) (Bs : List Reg) (G : List (List Int)) (q : Nat → Nat) (base : Nat) (v : Value) (E : List HEv) (D : List (List Int)) : Zn :=
  ⟨fun k => Zone l0 lo hi k ∨ v.ownBlock = some k, fun w => MemAt w pm l0 lo hi Bs G D q ∧ EvRow w base v E ∧ base ≤ w.heap.size, lo, hi⟩
theorem runZ_ok (pm l0 lo hi : Nat) (Bs : List Reg) (G : List (List Int)) (q : Nat → Nat) (base : Nat) (v : Value) (E : List HEv) (D : List (List Int)) : (runZ pm l0 lo hi Bs G q base v E D).ok :=
  ⟨fun w w' h hs hk => ⟨MemAt.kept h.1 (fun b hb hlt => hk b (.inl hb) hlt) hs, h.2.1.kept fun g hg => hk g (.inr hg) (World.ownsRow.lt h.2.1 g hg).2, Nat.le_trans h.2.2 hs⟩, fun k h1 h2 => .inl (.inr ⟨h1, h2⟩)⟩
section
variable {w0 w w1 : World} {L : List (Nat × Cel)} {pm l0 lo hi base : Nat} {Bs : List Reg} {G D D' : List (List Int)} {q : Nat → Nat} {v : Value} {E : List HEv}
/-- No event yet. -/
theorem SH.toRun (S : SH (memZ pm l0 lo hi Bs G D q) w0 w L) (hb : base ≤ w.heap.size) : SH (runZ pm l0 lo hi Bs G q base (.slice none 0 0) [] D) w0 w L :=
  S.turn (runZ_ok _ _ _ _ _ _ _ _ _ _ _) ⟨S.inv, World.ownsRow_nil w base _ _, hb⟩ (fun k hk => by
    rcases hk with hk | hk
    · exact S.zb k hk
    · simp [Value.ownBlock] at hk) S.mid (fun _ _ => rfl) (fun p hp hz => by
    rcases hz with hz | hz
    · exact (S.out p hp).2 hz
    · simp [Value.ownBlock] at hz)
theorem SH.runL0 (S : SH (runZ pm l0 lo hi Bs G q base v E D) w0 w L) : l0 ≤ w.heap.size := by
  rcases Nat.lt_or_ge w.heap.size l0 with h | h
  · exact absurd (S.zb w.heap.size (.inl (.inl h))) (Nat.lt_irrefl _)
  · exact h
/-- The memory was touched. -/
theorem SH.touched (S : SH (runZ pm l0 lo hi Bs G q base v E D) w0 w L) (hbase : hi ≤ base) (h1 : MemAt w1 pm l0 lo hi Bs G D' q) (h2 : Mid lo hi w w1) : SH (runZ pm l0 lo hi Bs G q base v E D') w0 w1 L := by
  have F := S.toFree.freeMid h2
  refine F.turn (runZ_ok _ _ _ _ _ _ _ _ _ _ _) ⟨h1, S.inv.2.1.kept fun g hg => ?_, Nat.le_trans S.inv.2.2 h2.size⟩ F.zb F.mid (fun _ _ => rfl) (fun p hp => (F.out p hp).2)
  have hl := World.ownsRow.lt S.inv.2.1 g hg
  exact h2.block g hl.2 (.inr (by omega))
/-- An event was appended. -/
theorem SH.appended (S : SH (runZ pm l0 lo hi Bs G q base v E D) w0 w L) (hbase : hi ≤ base) (hbase0 : l0 ≤ base) (hb0 : w0.heap.size ≤ base) {v' : Value} {E' : List HEv} (hn : EvRow w1 base v' E') (hg : w.grownBy w1 v.ownBlock) (hat : ∀ g, v'.ownBlock = some g → v.ownBlock = some g ∨ g = w.heap.size) :
    SH (runZ pm l0 lo hi Bs G q base v' E' D) w0 w1 L ∧ SH (runZ pm l0 lo hi Bs G q base v E D).free w0 w1 L := by
  have hv : ∀ k, v.ownBlock = some k → base ≤ k := fun k hk => (World.ownsRow.lt S.inv.2.1 k hk).1
  have hmid : Mid lo hi w0 w1 := ⟨hg.os.trans S.mid.os, hg.tape.trans S.mid.tape, hg.output.trans S.mid.output, Nat.le_trans S.mid.size hg.size, fun k hk hk2 => (hg.block k (Nat.lt_of_lt_of_le hk S.mid.size) (fun e => by have := hv k e.symm; omega)).trans (S.mid.block k hk hk2)⟩
  have hk : ∀ p ∈ L, w1.heap[p.1]? = w.heap[p.1]? := fun p hp => hg.block _ (S.blk p hp).lt (fun e => (S.out p hp).2 (.inr e.symm))
  refine ⟨S.turn (runZ_ok _ _ _ _ _ _ _ _ _ _ _) ⟨MemAt.kept S.inv.1 (fun b hb hlt => hg.block b hlt (fun e => ?_)) hg.size, hn, Nat.le_trans S.inv.2.2 hg.size⟩ (fun k hk => ?_) hmid hk (fun p hp hz => ?_), S.toFree.turn (free_ok S.ok) trivial (fun k hk => Nat.lt_of_lt_of_le (S.zb k hk) hg.size) hmid hk (fun p hp => (S.out p hp).2)⟩
  · have := hv b e.symm
    rcases hb with hb | hb <;> omega
  · rcases hk with hk | hk
    · exact Nat.lt_of_lt_of_le (S.zb k (.inl hk)) hg.size
    · exact (World.ownsRow.lt hn k hk).2
  · rcases hz with hz | hz
    · exact (S.out p hp).2 (.inl hz)
    · rcases hat _ hz with h | h
      · exact (S.out p hp).2 (.inr h)
      · have := (S.blk p hp).lt
        omega
theorem new_ev (w : World) (pc ad co : Int) (t : TypeId) : ∀ j u, (HEv.cells ⟨pc, ad, co⟩)[j]? = some u → (w.alloc (Obj.cells #[.int .i64 pc, .int .u32 ad, .int .i64 co] t)).cell? ((⟨w.heap.size, 0, none⟩ : Addr).add j) = some u := by
  intro j u hu
  have hb : Blk (w.alloc (Obj.cells #[.int .i64 pc, .int .u32 ad, .int .i64 co] t)) w.heap.size (HEv.cells ⟨pc, ad, co⟩) := Blk.new w _ t
  rw [Addr.add_mid, Nat.zero_add, hb.cell]
  exact hu
end
end Go.Proofs.Yteflboidbogegaa
