/- Rows of bytes: what lies behind a slice of bytes; rows of the call's own; bytes as strings. -/
import Derived.Test.YtabipgncbbjcgaaSt2
import Derived.Laws.AppendOwnNone
import Derived.Laws.BytesString
namespace Go.Proofs.Ytabipgncbbjcgaa
open Go.ChangeShapes Go.WideShapes Go.ChangeAt Go.RowKit
set_option linter.unusedVariables false
set_option linter.unusedSimpArgs false

/-- Bytes as cells. -/
def cb (bs : List Int) : List Value := bs.map fun x => Value.int .u8 x
theorem cb_length (bs : List Int) : (cb bs).length = bs.length := by simp [cb]
theorem cb_at (bs : List Int) (j : Nat) : (cb bs)[j]? = bs[j]?.map (fun x => Value.int .u8 x) := by simp [cb]
theorem cb_append (a b : List Int) : cb (a ++ b) = cb a ++ cb b := by simp [cb]
theorem cb_zeros (k : Nat) : cb (List.replicate k 0) = List.replicate k (Value.int .u8 0) := by simp [cb]
theorem cb_one (bs : List Int) : ∀ u ∈ cb bs, u.oneCell' = true := by
  intro u hu
  obtain ⟨x, _, rfl⟩ := List.mem_map.1 hu
  rfl
theorem cb_set (bs : List Int) (j : Nat) (x : Int) : (cb bs).set j (.int .u8 x) = cb (bs.set j x) := by simp [cb, List.map_set]

def okB (bs : List Int) : Prop := ∀ x ∈ bs, 0 ≤ x ∧ x ≤ 255

/-- The bytes bs lie behind the slice v, in a block of which S holds. -/
def BL (w : World) (S : Nat → Prop) (v : Value) (bs : List Int) : Prop :=
  okB bs ∧ ∃ A c, v = .slice A bs.length c ∧ (A = none → c = 0 ∧ bs = []) ∧
    ∀ j x, bs[j]? = some x → ∃ b o, A = some ⟨b, o, none⟩ ∧ S b ∧ w.cell? ⟨b, o + j, none⟩ = some (.int .u8 x)

theorem BL.mono {w : World} {S S' : Nat → Prop} {v : Value} {bs : List Int} (h : BL w S v bs) (hS : ∀ b, S b → S' b) : BL w S' v bs := by
  obtain ⟨h0, A, c, h1, h2, h3⟩ := h
  refine ⟨h0, A, c, h1, h2, fun j x hx => ?_⟩
  obtain ⟨b, o, e1, e2, e3⟩ := h3 j x hx
  exact ⟨b, o, e1, hS _ e2, e3⟩
theorem BL.kept {w w' : World} {S : Nat → Prop} {v : Value} {bs : List Int} (h : BL w S v bs) (hS : ∀ b, S b → b < w.heap.size → w'.heap[b]? = w.heap[b]?) : BL w' S v bs := by
  obtain ⟨h0, A, c, h1, h2, h3⟩ := h
  refine ⟨h0, A, c, h1, h2, fun j x hx => ?_⟩
  obtain ⟨b, o, e1, e2, e3⟩ := h3 j x hx
  refine ⟨b, o, e1, e2, (World.cell?_of_block (w := w) (a := ⟨b, o + j, none⟩) (hS b e2 ?_)).trans e3⟩
  exact World.block_lt_of_cell? w ⟨b, o + j, none⟩ e3
theorem BL.below {w w' : World} {S : Nat → Prop} {v : Value} {bs : List Int} (h : BL w S v bs) (hb : Below w.heap.size w w') : BL w' S v bs :=
  h.kept fun b _ hb' => hb.block b hb'

/-- A row of the call's own as bytes that lie. -/
theorem BL.own {w : World} {base : Nat} {v : Value} {bs : List Int} (h0 : okB bs) (h : w.ownsRow base 5 1 v bs.length (cb bs)) : BL w (fun b => base ≤ b ∧ b < w.heap.size) v bs := by
  refine ⟨h0, ?_⟩
  have h' := h
  obtain ⟨_, ⟨rfl, hn⟩ | ⟨g, cap, cur, rfl, hb, hg, hc, hm, _⟩⟩ := h
  · have : bs = [] := List.eq_nil_of_length_eq_zero hn
    subst this
    exact ⟨none, 0, rfl, fun _ => ⟨rfl, rfl⟩, fun j x hx => by simp at hx⟩
  · refine ⟨some ⟨g, 0, none⟩, cap, rfl, fun h => (by cases h), fun j x hx => ?_⟩
    have hj : j < bs.length := (List.getElem?_eq_some_iff.1 hx).1
    have hc := h'.cellAt j (by omega)
    rw [cb_at, hx] at hc
    refine ⟨g, 0, rfl, ⟨hb, World.block_lt_of_cell? w ⟨g, j, none⟩ hc⟩, ?_⟩
    rw [Nat.zero_add]
    exact hc

/-- What is to be appended: the cells behind the source. -/
theorem BL.news {w : World} {S : Nat → Prop} {A : Addr} {c n : Nat} {bs : List Int} (h : BL w S (.slice (some A) n c) bs) : ∀ j u, (cb bs)[j]? = some u → w.cell? (A.add j) = some u := by
  obtain ⟨_, A', c', h1, _, h3⟩ := h
  simp only [Value.slice.injEq] at h1
  obtain ⟨rfl, rfl, rfl⟩ := h1
  intro j u hu
  rw [cb_at] at hu
  cases hx : bs[j]? with
  | none => rw [hx] at hu; cases hu
  | some x =>
    rw [hx] at hu
    simp only [Option.map_some, Option.some.injEq] at hu
    obtain ⟨b, o, e1, _, e3⟩ := h3 j x hx
    cases e1
    have hadd : (⟨b, o, none⟩ : Addr).add j = ⟨b, o + j, none⟩ := by unfold Addr.add; split <;> simp_all
    rw [hadd, e3, hu]

theorem infoByte : (Try.prog.info? 5).map (fun i => (i.zero, i.size, i.bytes)) = some (some (.int .u8 0), 1, 1) := by kernel_rfl

/-- A new row of bytes comes back. -/
def OwnPost (w : World) (bs : List Int) (e : Ending) (w' : World) : Prop :=
  ∃ A c, e = .returned (.slice A bs.length c) ∧ w'.ownsRow w.heap.size 5 1 (.slice A bs.length c) bs.length (cb bs) ∧ Below w.heap.size w w'

theorem own_mono {w : World} {base base' : Nat} {e : TypeId} {size : Nat} {v : Value} {n : Nat} {xs : List Value} (h : w.ownsRow base e size v n xs) (hb : base' ≤ base) : w.ownsRow base' e size v n xs :=
  ⟨h.1, h.2.imp id fun ⟨g, cap, cur, h1, h2, h3⟩ => ⟨g, cap, cur, h1, Nat.le_trans hb h2, h3⟩⟩
theorem own_shape {w : World} {base : Nat} {e : TypeId} {v : Value} {n : Nat} {xs : List Value} (h : w.ownsRow base e 1 v n xs) : ∃ A c, v = .slice A n c := by
  obtain ⟨_, ⟨rfl, rfl⟩ | ⟨g, cap, cur, rfl, _⟩⟩ := h
  · exact ⟨none, 0, rfl⟩
  · exact ⟨_, _, rfl⟩

def strS (bs : List Int) : ByteArray := bs.foldl (fun r n => r.push (UInt8.ofNat n.toNat)) ByteArray.empty
/-- The bytes behind a slice, turned into a string. -/
theorem BL.str {w : World} {S : Nat → Prop} {v : Value} {bs : List Int} (h : BL w S v bs) : (convert 31 9 v).run Try.prog w = .ok (.string (strS bs)) w := by
  have h0 := h
  obtain ⟨_, A, c, rfl, hA, _⟩ := h
  rw [run_convert_bytes_string w 31 9 5 A bs.length c Try.underlying31 Try.underlying5 Try.underlying9]
  cases A with
  | none =>
    obtain ⟨rfl, rfl⟩ := hA rfl
    rfl
  | some A =>
    refine run_bytesToString w A bs.length c bs ?_
    have := run_loadCells_list (P := Try.prog) w A (cb bs) h0.news
    rw [cb_length] at this
    exact this

end Go.Proofs.Ytabipgncbbjcgaa
