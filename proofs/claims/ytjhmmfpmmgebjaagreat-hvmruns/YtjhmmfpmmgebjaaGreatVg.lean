/- The events' row, the memory, and what is told of both while a run goes on. -/
import Derived.Test.YtjhmmfpmmgebjaaGreatHv9
import Derived.Deep.AppendLies
namespace Go.Proofs.YtjhmmfpmmgebjaaGreat
open Go.ChangeShapes Go.WideShapes Go.ChangeAt Go.RowKit
set_option linter.unusedVariables false
set_option linter.unusedSimpArgs false

def HEv.cells (e : HEv) : List Value := [.int .i64 e.pc, .int .u32 e.ad, .int .i64 e.co]
def evC (E : List HEv) : List Value := E.flatMap HEv.cells
theorem evC_length (E : List HEv) : (evC E).length = E.length * 3 := by
  induction E with
  | nil => rfl
  | cons e E ih =>
    simp only [evC, List.flatMap_cons, List.length_append, List.length_cons] at ih ⊢
    rw [ih]
    simp [HEv.cells]
    omega
theorem evC_snoc (E : List HEv) (e : HEv) : evC (E ++ [e]) = evC E ++ e.cells := by simp [evC]
theorem ev_cells (e : HEv) : (Cel.ev e.pc e.ad e.co).cells = e.cells := rfl
theorem one_ev (e : HEv) : ∀ u ∈ e.cells, u.oneCell' = true := by
  intro u hu
  simp only [HEv.cells, List.mem_cons, List.not_mem_nil, or_false] at hu
  rcases hu with rfl | rfl | rfl <;> rfl
def EvRow (w : World) (base : Nat) (v : Value) (E : List HEv) : Prop := w.ownsRow base 59 3 v E.length (evC E)
theorem EvRow.kept {w w' : World} {base : Nat} {v : Value} {E : List HEv} (h : EvRow w base v E) (hb : ∀ g, v.ownBlock = some g → w'.heap[g]? = w.heap[g]?) : EvRow w' base v E := by
  refine ⟨h.1, ?_⟩
  rcases h.2 with h0 | ⟨g, cap, cur, rfl, hg, hh, rest⟩
  · exact .inl h0
  · exact .inr ⟨g, cap, cur, rfl, hg, (hb g rfl).trans hh, rest⟩
theorem EvRow.form {w : World} {base : Nat} {v : Value} {E : List HEv} (h : EvRow w base v E) : ∃ A c, v = .slice A E.length c := by
  rcases h.2 with ⟨h0, h1⟩ | ⟨g, cap, cur, h0, _⟩
  · exact ⟨none, 0, by rw [h0, h1]⟩
  · exact ⟨_, _, h0⟩
theorem infoEv : (Tryz.prog.info? 59).map (fun i => (i.zero, i.size, i.bytes)) = some (some (.agg #[.int .i64 0, .int .u32 0, .int .i64 0]), 3, 24) := by kernel_rfl
theorem ev_info : ∃ i : TypeInfo, Tryz.prog.info? 59 = some i ∧ i.zero = some (.agg #[.int .i64 0, .int .u32 0, .int .i64 0]) ∧ i.size = 3 ∧ i.bytes = 24 := by
  have h := infoEv
  cases hq : Tryz.prog.info? 59 with
  | none => rw [hq] at h; cases h
  | some i =>
    rw [hq] at h
    simp only [Option.map_some, Option.some.injEq, Prod.mk.injEq] at h
    exact ⟨i, rfl, h.1, h.2.1, h.2.2⟩

/-- What is told of the memory and of the events, while a run goes on. -/
def runZ (pm l0 lo hi : Nat) (Bs : List Reg) (G : List (List Int)) (q : Nat → Nat) (base : Nat) (v : Value) (E : List HEv) (D : List (List Int)) : Zn :=
  ⟨fun k => Zone l0 lo hi k ∨ v.ownBlock = some k, fun w => MemAt w pm l0 lo hi Bs G D q ∧ EvRow w base v E ∧ base ≤ w.heap.size, lo, hi⟩
theorem runZ_ok (pm l0 lo hi : Nat) (Bs : List Reg) (G : List (List Int)) (q : Nat → Nat) (base : Nat) (v : Value) (E : List HEv) (D : List (List Int)) : (runZ pm l0 lo hi Bs G q base v E D).ok :=
  ⟨fun w w' h hs hk => ⟨MemAt.kept h.1 (fun b hb hlt => hk b (.inl hb) hlt) hs, h.2.1.kept fun g hg => hk g (.inr hg) (World.ownsRow.lt h.2.1 g hg).2, Nat.le_trans h.2.2 hs⟩, fun k h1 h2 => .inl (.inr ⟨h1, h2⟩)⟩
section
variable {w0 w w1 : World} {L : List (Nat × Cel)} {pm l0 lo hi base : Nat} {Bs : List Reg} {G D D' : List (List Int)} {q : Nat → Nat} {v : Value} {E : List HEv}
/-- No event yet. -/
theorem SH.toRun (S : SH (memZ pm l0 lo hi Bs G D q) w0 w L) (hb : base ≤ w.heap.size) : SH (runZ pm l0 lo hi Bs G q base (.slice none 0 0) [] D) w0 w L :=
  S.turn (runZ_ok _ _ _ _ _ _ _ _ _ _ _) ⟨S.inv, World.ownsRow_nil w base _ _, hb⟩ (fun k hk => by
    rcases hk with hk | hk
    · exact S.zb k hk
    · simp [Value.ownBlock] at hk) S.mid (fun _ _ => rfl) (fun p hp hz => by
    rcases hz with hz | hz
    · exact (S.out p hp).2 hz
    · simp [Value.ownBlock] at hz)
theorem SH.runL0 (S : SH (runZ pm l0 lo hi Bs G q base v E D) w0 w L) : l0 ≤ w.heap.size := by
  rcases Nat.lt_or_ge w.heap.size l0 with h | h
  · exact absurd (S.zb w.heap.size (.inl (.inl h))) (Nat.lt_irrefl _)
  · exact h
/-- The memory was touched. -/
theorem SH.touched (S : SH (runZ pm l0 lo hi Bs G q base v E D) w0 w L) (hbase : hi ≤ base) (h1 : MemAt w1 pm l0 lo hi Bs G D' q) (h2 : Mid lo hi w w1) : SH (runZ pm l0 lo hi Bs G q base v E D') w0 w1 L := by
  have F := S.toFree.freeMid h2
  refine F.turn (runZ_ok _ _ _ _ _ _ _ _ _ _ _) ⟨h1, S.inv.2.1.kept fun g hg => ?_, Nat.le_trans S.inv.2.2 h2.size⟩ F.zb F.mid (fun _ _ => rfl) (fun p hp => (F.out p hp).2)
  have hl := World.ownsRow.lt S.inv.2.1 g hg
  exact h2.block g hl.2 (.inr (by omega))
/-- An event was appended. -/
theorem SH.appended (S : SH (runZ pm l0 lo hi Bs G q base v E D) w0 w L) (hbase : hi ≤ base) (hbase0 : l0 ≤ base) (hb0 : w0.heap.size ≤ base) {v' : Value} {E' : List HEv} (hn : EvRow w1 base v' E') (hg : w.grownBy w1 v.ownBlock) (hat : ∀ g, v'.ownBlock = some g → v.ownBlock = some g ∨ g = w.heap.size) :
    SH (runZ pm l0 lo hi Bs G q base v' E' D) w0 w1 L ∧ SH (runZ pm l0 lo hi Bs G q base v E D).free w0 w1 L := by
  have hv : ∀ k, v.ownBlock = some k → base ≤ k := fun k hk => (World.ownsRow.lt S.inv.2.1 k hk).1
  have hmid : Mid lo hi w0 w1 := ⟨hg.os.trans S.mid.os, hg.tape.trans S.mid.tape, hg.output.trans S.mid.output, Nat.le_trans S.mid.size hg.size, fun k hk hk2 => (hg.block k (Nat.lt_of_lt_of_le hk S.mid.size) (fun e => by have := hv k e.symm; omega)).trans (S.mid.block k hk hk2)⟩
  have hk : ∀ p ∈ L, w1.heap[p.1]? = w.heap[p.1]? := fun p hp => hg.block _ (S.blk p hp).lt (fun e => (S.out p hp).2 (.inr e.symm))
  refine ⟨S.turn (runZ_ok _ _ _ _ _ _ _ _ _ _ _) ⟨MemAt.kept S.inv.1 (fun b hb hlt => hg.block b hlt (fun e => ?_)) hg.size, hn, Nat.le_trans S.inv.2.2 hg.size⟩ (fun k hk => ?_) hmid hk (fun p hp hz => ?_), S.toFree.turn (free_ok S.ok) trivial (fun k hk => Nat.lt_of_lt_of_le (S.zb k hk) hg.size) hmid hk (fun p hp => (S.out p hp).2)⟩
  · have := hv b e.symm
    rcases hb with hb | hb <;> omega
  · rcases hk with hk | hk
    · exact Nat.lt_of_lt_of_le (S.zb k (.inl hk)) hg.size
    · exact (World.ownsRow.lt hn k hk).2
  · rcases hz with hz | hz
    · exact (S.out p hp).2 (.inl hz)
    · rcases hat _ hz with h | h
      · exact (S.out p hp).2 (.inr h)
      · have := (S.blk p hp).lt
        omega
theorem new_ev (w : World) (pc ad co : Int) (t : TypeId) : ∀ j u, (HEv.cells ⟨pc, ad, co⟩)[j]? = some u → (w.alloc (Obj.cells #[.int .i64 pc, .int .u32 ad, .int .i64 co] t)).cell? ((⟨w.heap.size, 0, none⟩ : Addr).add j) = some u := by
  intro j u hu
  have hb : Blk (w.alloc (Obj.cells #[.int .i64 pc, .int .u32 ad, .int .i64 co] t)) w.heap.size (HEv.cells ⟨pc, ad, co⟩) := Blk.new w _ t
  rw [Addr.add_mid, Nat.zero_add, hb.cell]
  exact hu
end
end Go.Proofs.YtjhmmfpmmgebjaaGreat
namespace Go.Proofs.YtjhmmfpmmgebjaaGreat
open Go.ChangeShapes Go.WideShapes Go.ChangeAt Go.RowKit
set_option linter.unusedVariables false
set_option linter.unusedSimpArgs false

theorem touch_c (s : HSt) (v : Value) (h : HV) (o1 : 22 ≤ h.op) (o2 : h.op ≤ 31) (ho : HOk h) (hR : okR s.R) (hv : v.oneCell' = true) (p0 : -4611686018427387904 ≤ s.p) (p1 : s.p ≤ 4611686018427387904)
    {pm l0 lo hi : Nat} {Bs : List Reg} {G : List (List Int)} {q : Nat → Nat} (w : World) (hM : MemAt w pm l0 lo hi Bs G s.D q) (hl0 : l0 ≤ w.heap.size) :
    Calls Tryz.prog 25 #[(Cel.res s.R v 0 s.p).val, (Cel.host h).val, .pointer (some ⟨pm, 0, none⟩)] w fun en w' =>
      en = .returned (.tuple #[(Cel.res (actS Bs h s).1.R v (actS Bs h s).2.1 (actS Bs h s).1.p).val, .bool (actS Bs h s).2.2]) ∧ MemAt w' pm l0 lo hi Bs G (actS Bs h s).1.D q ∧ Mid lo hi w w' := by
  have hc : h.op = 22 ∨ h.op = 23 ∨ h.op = 24 ∨ h.op = 25 ∨ h.op = 26 ∨ h.op = 27 ∨ h.op = 28 ∨ h.op = 29 ∨ h.op = 30 ∨ h.op = 31 := by omega
  rcases hc with e | e | e | e | e | e | e | e | e | e
  · by_cases hz : ldErr Bs h s.R = 0
    · rw [show actS Bs h s = (⟨s.R.set h.d.toNat (ldGot Bs s.D h s.R), s.E, s.p + 1, s.D⟩, 0, true) by simp [actS, e, hz]]
      exact touch_22a s.R v s.p h e ho hR hv p0 p1 w hM hl0 hz
    · rw [show actS Bs h s = (s, ldErr Bs h s.R, false) by simp [actS, e, hz]]
      exact touch_22b s.R v s.p h e ho hR hv p0 p1 w hM hl0 _ rfl hz
  · by_cases hz : ldErr Bs h s.R = 0
    · rw [show actS Bs h s = (⟨s.R.set h.d.toNat (ldGot Bs s.D h s.R), s.E, s.p + 1, s.D⟩, 0, true) by simp [actS, e, hz]]
      exact touch_23a s.R v s.p h e ho hR hv p0 p1 w hM hl0 hz
    · rw [show actS Bs h s = (s, ldErr Bs h s.R, false) by simp [actS, e, hz]]
      exact touch_23b s.R v s.p h e ho hR hv p0 p1 w hM hl0 _ rfl hz
  · by_cases hz : ldErr Bs h s.R = 0
    · rw [show actS Bs h s = (⟨s.R.set h.d.toNat (ldGot Bs s.D h s.R), s.E, s.p + 1, s.D⟩, 0, true) by simp [actS, e, hz]]
      exact touch_24a s.R v s.p h e ho hR hv p0 p1 w hM hl0 hz
    · rw [show actS Bs h s = (s, ldErr Bs h s.R, false) by simp [actS, e, hz]]
      exact touch_24b s.R v s.p h e ho hR hv p0 p1 w hM hl0 _ rfl hz
  · by_cases hz : stErr Bs h s.R = 0
    · rw [show actS Bs h s = (⟨s.R, s.E, s.p + 1, stDat Bs s.D h s.R⟩, 0, true) by simp [actS, e, hz]]
      exact touch_25a s.R v s.p h e ho hR hv p0 p1 w hM hl0 hz
    · rw [show actS Bs h s = (⟨s.R, s.E, s.p, stDat Bs s.D h s.R⟩, stErr Bs h s.R, false) by simp [actS, e, hz]]
      exact touch_25b s.R v s.p h e ho hR hv p0 p1 w hM hl0 _ rfl hz
  · by_cases hz : stErr Bs h s.R = 0
    · rw [show actS Bs h s = (⟨s.R, s.E, s.p + 1, stDat Bs s.D h s.R⟩, 0, true) by simp [actS, e, hz]]
      exact touch_26a s.R v s.p h e ho hR hv p0 p1 w hM hl0 hz
    · rw [show actS Bs h s = (⟨s.R, s.E, s.p, stDat Bs s.D h s.R⟩, stErr Bs h s.R, false) by simp [actS, e, hz]]
      exact touch_26b s.R v s.p h e ho hR hv p0 p1 w hM hl0 _ rfl hz
  · by_cases hz : stErr Bs h s.R = 0
    · rw [show actS Bs h s = (⟨s.R, s.E, s.p + 1, stDat Bs s.D h s.R⟩, 0, true) by simp [actS, e, hz]]
      exact touch_27a s.R v s.p h e ho hR hv p0 p1 w hM hl0 hz
    · rw [show actS Bs h s = (⟨s.R, s.E, s.p, stDat Bs s.D h s.R⟩, stErr Bs h s.R, false) by simp [actS, e, hz]]
      exact touch_27b s.R v s.p h e ho hR hv p0 p1 w hM hl0 _ rfl hz
  · rw [show actS Bs h s = (⟨s.R, s.E, s.p + wrap32 h.im, s.D⟩, 0, true) by simp [actS, e]]
    exact touch_28 s.R v s.p h e ho hR hv p0 p1 w hM hl0
  · by_cases hz : regv s.R h.a = 0
    · rw [show actS Bs h s = (⟨s.R, s.E, s.p + wrap32 h.im, s.D⟩, 0, true) by simp [actS, e, hz]]
      exact touch_29a s.R v s.p h e ho hR hv p0 p1 w hM hl0 hz
    · rw [show actS Bs h s = (⟨s.R, s.E, s.p + 1, s.D⟩, 0, true) by simp [actS, e, hz]]
      exact touch_29b s.R v s.p h e ho hR hv p0 p1 w hM hl0 hz
  · rw [show actS Bs h s = (s, 0, false) by simp [actS, e]]
    exact touch_30 s.R v s.p h e ho hR hv p0 p1 w hM hl0
  · rw [show actS Bs h s = (s, h.im, false) by simp [actS, e]]
    exact touch_31 s.R v s.p h e ho hR hv p0 p1 w hM hl0

theorem actS_E (Bs : List Reg) (h : HV) (s : HSt) : (actS Bs h s).1.E = s.E := by unfold actS; (repeat' split) <;> rfl
theorem actS_go (Bs : List Reg) (h : HV) (s : HSt) (hg : (actS Bs h s).2.2 = true) : (actS Bs h s).2.1 = 0 := by
  revert hg
  unfold actS
  (repeat' split) <;> simp
theorem actS_R {w : World} {p l0 lo hi : Nat} {Bs : List Reg} {G : List (List Int)} {q : Nat → Nat} {s : HSt} {h : HV} (hM : MemAt w p l0 lo hi Bs G s.D q) (ho : HOk h) (hR : okR s.R) : okR (actS Bs h s).1.R := by
  have hA := (regv_at hR ho.2.1.1 ho.2.1.2).2
  have hB := (regv_at hR ho.2.2.1.1 ho.2.2.1.2).2
  have hC := (regv_at hR ho.2.2.2.1.1 ho.2.2.2.1.2).2
  unfold actS
  (repeat' split) <;> first | exact okR_set hR _ (reckS_ok hA hB hC ho.2.2.2.2) | exact okR_set hR _ (got_ok hM _ _) | exact hR
theorem actS_p {Bs : List Reg} {s : HSt} {h : HV} (p0 : 0 ≤ s.p) (p1 : s.p ≤ 1000000) : -8589934592 ≤ (actS Bs h s).1.p ∧ (actS Bs h s).1.p ≤ 8589934592 := by
  have hw := wrap32_bounds h.im
  unfold actS
  (repeat' split) <;> (simp only []) <;> (try split) <;> omega
theorem CL.mid {w w' : World} {A : Option Addr} {code : List HV} {lo hi : Nat} (h : CL w A code) (hA : ∀ b o, A = some ⟨b, o, none⟩ → code = [] ∨ b < lo ∨ hi ≤ b) (hm : Mid lo hi w w') : CL w' A code := by
  by_cases hc : code = []
  · subst hc
    exact ⟨by decide, fun i h hi => by simp at hi⟩
  · exact h.kept fun b o ha hb => hm.block b hb ((hA b o ha).resolve_left hc)

def evLen (w : World) (b : Nat) : Nat := match w.cell? ⟨b, 32, none⟩ with | some (.slice _ n _) => n | _ => 0
def runMeas (N b : Nat) (g : Value) (w : World) : Nat := match g with | .bool true => N + 1 - evLen w b | _ => 0
theorem evLen_of {M : Zn} {w0 w : World} {L : List (Nat × Cel)} (S : SH M w0 w L) {i b : Nat} {R : List Int} {A : Option Addr} {n c : Nat} {e p : Int} (hL : L[i]? = some (b, .res R (.slice A n c) e p)) (hR : R.length = 32) : evLen w b = n := by
  unfold evLen
  rw [(S.at hL).1.cell 32, res_32 hR]

/-- A round's relation. -/
def runRel (w0 : World) (pm l0 lo hi : Nat) (Bs : List Reg) (G : List (List Int)) (q : Nat → Nat) (base b7 b10 b11 b12 : Nat) (R0 : List Int) (code : List HV) (at' : Int) (N : Nat) (fin : HSt × Int) (g : Value) (wr : World) : Prop :=
  ∃ (s : HSt) (er : Int) (go : Bool) (A : Option Addr) (c k : Nat), g = .bool go ∧
    SH (runZ pm l0 lo hi Bs G q base (.slice A s.E.length c) s.E s.D) w0 wr [(b12, Cel.res s.R (.slice A s.E.length c) er s.p), (b11, Cel.any tabC), (b10, Cel.res (List.replicate 32 0) (.slice none 0 0) 0 0), (b7, Cel.regs R0)] ∧
    okR s.R ∧ (-8589934592 ≤ s.p ∧ s.p ≤ 8589934592) ∧ s.E.length + k = N ∧ (if go then er = 0 ∧ runS at' Bs code k s = fin else fin = (s, er))
def RunPost (w : World) (pm l0 lo hi : Nat) (Bs : List Reg) (G : List (List Int)) (q : Nat → Nat) (fin : HSt × Int) (e : Ending) (w' : World) : Prop :=
  ∃ A c base, e = .returned (Cel.res fin.1.R (.slice A fin.1.E.length c) fin.2 fin.1.p).val ∧ EvRow w' base (.slice A fin.1.E.length c) fin.1.E ∧ w.heap.size ≤ base ∧ hi ≤ base ∧ MemAt w' pm l0 lo hi Bs G fin.1.D q ∧ Mid lo hi w w' ∧ okR fin.1.R
theorem okPc_at {code : List HV} {p : Int} (h : okPc code p = true) : 0 ≤ p ∧ p.toNat < code.length ∧ code[p.toNat]? = some (codeAt code p) ∧ rightS (codeAt code p) = true := by
  unfold okPc at h
  simp only [Bool.and_eq_true, decide_eq_true_eq] at h
  obtain ⟨h0, h1⟩ := h
  cases hc : code[p.toNat]? with
  | none => rw [hc] at h1; cases h1
  | some x =>
    rw [hc] at h1
    have : codeAt code p = x := by simp [codeAt, List.getD, hc]
    exact ⟨h0, (List.getElem?_eq_some_iff.1 hc).1, by rw [this], by rw [this]; exact h1⟩
theorem zeroHost : (Tryz.prog.info? 31).map (fun i => i.zero) = some (some (Cel.host noHV).val) := by kernel_rfl
theorem one_host (h : HV) : ∀ u ∈ (Cel.host h).cells, u.oneCell' = true := by
  intro u hu
  simp only [Cel.cells, List.mem_cons, List.not_mem_nil, or_false] at hu
  rcases hu with rfl | rfl | rfl | rfl | rfl | rfl <;> rfl
theorem code_range {w w' : World} {b o : Nat} {code : List HV} {lo hi i : Nat} {h : HV} (hC : CL w (some ⟨b, o, none⟩) code) (hA : ∀ b' o', some (⟨b, o, none⟩ : Addr) = some ⟨b', o', none⟩ → code = [] ∨ b' < lo ∨ hi ≤ b') (hm : Mid lo hi w w') (hi' : code[i]? = some h) : w'.rangeAt b (o + i * 6) (Cel.host h).cells := by
  obtain ⟨_, b', o', he, c0, c1, c2, c3, c4, c5⟩ := (hC.mid hA hm).2 i h hi'
  cases he
  intro j u hu
  match j, hu with
  | 0, hu => cases hu; exact c0
  | 1, hu => cases hu; exact c1
  | 2, hu => cases hu; exact c2
  | 3, hu => cases hu; exact c3
  | 4, hu => cases hu; exact c4
  | 5, hu => cases hu; exact c5
  | j + 6, hu => simp [Cel.cells] at hu
theorem szEvs : (Tryz.prog.info? 47).map (·.size) = some 1 := by kernel_rfl
end Go.Proofs.YtjhmmfpmmgebjaaGreat
