/- Plain words of regions: what the program's and the document's functions come to, on a list of regions given by an index. No Go in sight. -/
import Derived.Test.YtjhmmfpmmgebjaaGreatRows
import Derived.WalkKit
import Derived.ProofKit
import Derived.OpenShut
import Derived.Deep.QuietTactic
import Derived.BigQuiet
import Derived.Laws.ResultCell
import Derived.Lib.AppendZerosOnto
import Derived.Laws.AppendOwnNone
import Derived.Deep.AppendLies
import Derived.Deep.RegionHeld3
import Derived.Deep.DrawnRows
import Derived.Deep.RegionLaw
namespace Go.Proofs.YtjhmmfpmmgebjaaGreat
open Go.ChangeShapes Go.WideShapes Go.ChangeAt Go.RowKit
set_option linter.unusedVariables false

structure Reg where
  fr : Int
  ln : Int
  rd : Bool
  wr : Bool
  ex : Bool
  se : Bool
  ba : Option Addr
  bl : Nat
  bc : Nat
def noReg : Reg := ⟨0, 0, false, false, false, false, none, 0, 0⟩

def Reg.wf (r : Reg) : Prop := 0 ≤ r.fr ∧ r.fr ≤ 4294967295 ∧ 0 ≤ r.ln ∧ r.ln ≤ 4294967295 ∧ (r.bl : Int) ≤ 9223372036854775807
def Reg.val (r : Reg) : Value := .agg #[.int .u32 r.fr, .int .u32 r.ln, .bool r.rd, .bool r.wr, .bool r.ex, .bool r.se, .slice r.ba r.bl r.bc]

def endS (r : Reg) : Int := r.fr + r.ln
def mayBeS (r : Reg) : Bool := decide (r.fr % 4 = 0) && decide (r.ln % 4 = 0) && decide (r.ln ≠ 0) && decide (r.fr + r.ln ≤ 4294963200) && decide ((r.bl : Int) ≤ r.ln) && !(r.ex && r.se)
def sumS (R : Nat → Reg) : Nat → Int
  | 0 => 0
  | n + 1 => sumS R n + (R n).ln
def freeS (R : Nat → Reg) : Nat → Int
  | 0 => 0
  | n + 1 => endS (R n)
def goodS (R : Nat → Reg) : Nat → Bool
  | 0 => true
  | n + 1 => goodS R n && (decide (freeS R n ≤ (R n).fr) && mayBeS (R n))
def tooS (R : Nat → Reg) (n : Nat) : Bool := decide (8 < n) || decide (65536 < sumS R n)
def checkS (R : Nat → Reg) (n : Nat) : Int := if tooS R n then 22 else if goodS R n then 0 else 23
def widthS (s : Int) : Int := if s = 1 ∨ s = 2 then s else 4
def hitS (r : Reg) (a s : Int) : Bool := decide (r.fr ≤ a) && decide (a + s ≤ r.fr + r.ln)
def firstS (R : Nat → Reg) (a s : Int) : Nat → Option Nat
  | 0 => none
  | n + 1 => match firstS R a s n with
    | some i => some i
    | none => if hitS (R n) a s then some n else none
def findS (R : Nat → Reg) (n : Nat) (a s : Int) : Option Nat := if checkS R n = 0 then firstS R a (widthS s) n else none
def regS (R : Nat → Reg) : Option Nat → Reg
  | none => noReg
  | some i => R i
def mayS (R : Nat → Reg) (n : Nat) (a s : Int) (w : Bool) : Int :=
  if checkS R n ≠ 0 then 24 else if a % widthS s ≠ 0 then 25 else
  if (findS R n a s).isSome && (if w then (regS R (findS R n a s)).wr else (regS R (findS R n a s)).rd) then 0 else 24
def execS (R : Nat → Reg) (n : Nat) (a : Int) : Int := if decide (a % 2 = 0) && (findS R n a 2).isSome && (regS R (findS R n a 2)).ex then 0 else 26
def secretS (R : Nat → Reg) (n : Nat) (a s : Int) : Bool := (findS R n a s).isSome && (regS R (findS R n a s)).se
def fixedS (R : Nat → Reg) (n : Nat) (a s : Int) : Bool := (findS R n a s).isSome && (regS R (findS R n a s)).rd && !(regS R (findS R n a s)).wr && !(regS R (findS R n a s)).se

theorem sumS_bounds (R : Nat → Reg) (n : Nat) (h : ∀ i, i < n → (R i).wf) : 0 ≤ sumS R n ∧ sumS R n ≤ 4294967295 * n := by
  induction n with
  | zero => simp [sumS]
  | succ n ih =>
    have h1 := ih (fun i hi => h i (by omega))
    have h2 := h n (by omega)
    unfold Reg.wf at h2
    simp only [sumS]
    push_cast
    omega
theorem goodS_le (R : Nat → Reg) {k n : Nat} (hk : k ≤ n) (h : goodS R n = true) : goodS R k = true := by
  induction n with
  | zero => have : k = 0 := by omega
            subst this; exact h
  | succ n ih =>
    rcases Nat.lt_or_ge n k with h1 | h1
    · have : k = n + 1 := by omega
      subst this; exact h
    · simp only [goodS, Bool.and_eq_true] at h
      exact ih h1 h.1
theorem goodS_bad (R : Nat → Reg) {k n : Nat} (hk : k < n) (h : (decide (freeS R k ≤ (R k).fr) && mayBeS (R k)) = false) : goodS R n = false := by
  cases hg : goodS R n with
  | false => rfl
  | true =>
    have := goodS_le R (k := k + 1) hk hg
    simp [goodS, h] at this
theorem firstS_le (R : Nat → Reg) (a s : Int) {k n i : Nat} (hk : k ≤ n) (h : firstS R a s k = some i) : firstS R a s n = some i := by
  induction n with
  | zero => have : k = 0 := by omega
            subst this; exact h
  | succ n ih =>
    rcases Nat.lt_or_ge n k with h1 | h1
    · have : k = n + 1 := by omega
      subst this; exact h
    · simp only [firstS, ih h1]
theorem firstS_hit (R : Nat → Reg) (a s : Int) {k n : Nat} (hk : k < n) (h0 : firstS R a s k = none) (h : hitS (R k) a s = true) : firstS R a s n = some k :=
  firstS_le R a s (k := k + 1) hk (by simp [firstS, h0, h])
theorem firstS_lt (R : Nat → Reg) (a s : Int) {n i : Nat} (h : firstS R a s n = some i) : i < n ∧ hitS (R i) a s = true := by
  induction n with
  | zero => cases h
  | succ n ih =>
    simp only [firstS] at h
    cases hf : firstS R a s n with
    | some j => rw [hf] at h; cases h; exact ⟨by have := (ih hf).1; omega, (ih hf).2⟩
    | none =>
      rw [hf] at h
      by_cases hh : hitS (R n) a s = true
      · simp [hh] at h; subst h; exact ⟨by omega, hh⟩
      · simp [hh] at h
theorem findS_lt (R : Nat → Reg) {n i : Nat} {a s : Int} (h : findS R n a s = some i) : i < n := by
  unfold findS at h
  split at h
  · exact (firstS_lt R _ _ h).1
  · cases h
end Go.Proofs.YtjhmmfpmmgebjaaGreat
namespace Go.Proofs.YtjhmmfpmmgebjaaGreat
open Go.ChangeShapes Go.WideShapes Go.ChangeAt Go.RowKit
set_option linter.unusedVariables false
set_option linter.unusedSimpArgs false

theorem alloc_size' (w : World) (o : Obj) : (w.alloc o).heap.size = w.heap.size + 1 := by
  show (w.heap.push o).size = _
  simp

theorem width_c (s : Int) (w : World) : Calls Tryz.prog 104 #[.int .u32 s] w fun e w' => e = .returned (.int .u32 (widthS s)) ∧ w' = w := by
  unfold widthS
  by_cases h1 : s = 1
  · go_enter Tryz.func104, Tryz.ntmps104
    go_wp2
    go_ret
    exact ⟨by simp [h1], rfl⟩
  · by_cases h2 : s = 2
    · go_enter Tryz.func104, Tryz.ntmps104
      go_wp2
      go_ret
      exact ⟨by simp [h2], rfl⟩
    · have h1' : (s == 1) = false := by simpa using h1
      have h2' : (s == 2) = false := by simpa using h2
      rw [if_neg (by omega)]
      go_enter Tryz.func104, Tryz.ntmps104
      go_wp2
      go_ret
      exact ⟨rfl, rfl⟩
theorem size_c (s : Int) (w : World) : Calls Tryz.prog 79 #[.int .u32 s] w fun e w' => e = .returned (.int .u32 (widthS s)) ∧ w' = w := by
  unfold widthS
  by_cases h1 : s = 1
  · go_enter Tryz.func79, Tryz.ntmps79
    go_wp2
    go_ret
    exact ⟨by simp [h1], rfl⟩
  · by_cases h2 : s = 2
    · go_enter Tryz.func79, Tryz.ntmps79
      go_wp2
      go_ret
      exact ⟨by simp [h2], rfl⟩
    · have h1' : (s == 1) = false := by simpa using h1
      have h2' : (s == 2) = false := by simpa using h2
      rw [if_neg (by omega)]
      go_enter Tryz.func79, Tryz.ntmps79
      go_wp2
      go_ret
      exact ⟨rfl, rfl⟩

theorem end_c (r : Reg) (hr : r.wf) (w : World) : Calls Tryz.prog 38 #[r.val] w fun e w' => e = .returned (.int .u64 (endS r)) ∧ Below w.heap.size w w' := by
  obtain ⟨fr, ln, rd, wr, ex, se, ba, bl, bc⟩ := r
  unfold Reg.wf at hr
  simp only [Reg.val, endS]
  obtain ⟨h1, h2, h3, h4, h5⟩ := hr
  simp only at h1 h2 h3 h4 h5
  go_enter Tryz.func38, Tryz.ntmps38
  go_wp2
  go_ret
  exact ⟨rfl, (Below.refl _ _).alloc (Nat.le_refl _) _⟩

/-- A region's seven cells from an address on. -/
def At7 (w : World) (b o : Nat) (r : Reg) : Prop :=
  w.cell? ⟨b, o, none⟩ = some (.int .u32 r.fr) ∧ w.cell? ⟨b, o + 1, none⟩ = some (.int .u32 r.ln) ∧ w.cell? ⟨b, o + 2, none⟩ = some (.bool r.rd) ∧ w.cell? ⟨b, o + 3, none⟩ = some (.bool r.wr) ∧
  w.cell? ⟨b, o + 4, none⟩ = some (.bool r.ex) ∧ w.cell? ⟨b, o + 5, none⟩ = some (.bool r.se) ∧ w.cell? ⟨b, o + 6, none⟩ = some (.slice r.ba r.bl r.bc)
theorem At7.lt {w : World} {b o : Nat} {r : Reg} (h : At7 w b o r) : b < w.heap.size := by
  have := h.1
  unfold World.cell? at this
  rcases Nat.lt_or_ge b w.heap.size with h1 | h1
  · exact h1
  · simp [Array.getElem?_eq_none h1] at this
theorem At7.below {B : Nat} {w w' : World} {b o : Nat} {r : Reg} (h : At7 w b o r) (hb : Below B w w') (hB : b < B) : At7 w' b o r := by
  obtain ⟨h0, h1, h2, h3, h4, h5, h6⟩ := h
  exact ⟨(hb.cell hB).trans h0, (hb.cell hB).trans h1, (hb.cell hB).trans h2, (hb.cell hB).trans h3, (hb.cell hB).trans h4, (hb.cell hB).trans h5, (hb.cell hB).trans h6⟩
theorem At7.new (w : World) (r : Reg) (t : TypeId) : At7 (w.alloc (Obj.cells #[.int .u32 r.fr, .int .u32 r.ln, .bool r.rd, .bool r.wr, .bool r.ex, .bool r.se, .slice r.ba r.bl r.bc] t)) w.heap.size 0 r := by
  refine ⟨?_, ?_, ?_, ?_, ?_, ?_, ?_⟩ <;> (rw [World.cell?_alloc_new]; rfl)
set_option maxHeartbeats 2000000 in
theorem mayBe_c (r : Reg) (hr : r.wf) (w : World) : Calls Tryz.prog 37 #[r.val] w fun e w' => e = .returned (.bool (mayBeS r)) ∧ Below w.heap.size w w' := by
  have C : Hid _ := fun (w : World) => end_c r hr w
  obtain ⟨fr, ln, rd, wr, ex, se, ba, bl, bc⟩ := r
  unfold Reg.wf at hr
  simp only [Reg.val, endS] at C ⊢
  obtain ⟨h1, h2, h3, h4, h5⟩ := hr
  simp only at h1 h2 h3 h4 h5
  by_cases hA : fr % 4 = 0 ∧ ln % 4 = 0 ∧ ln ≠ 0
  · have a1 : (fr % 4 == 0) = true := by simpa using hA.1
    have a2 : (ln % 4 == 0) = true := by simpa using hA.2.1
    have a3 : (ln == 0) = false := by simpa using hA.2.2
    by_cases hB : fr + ln ≤ 4294963200 ∧ (bl : Int) ≤ ln
    · have hm : mayBeS ⟨fr, ln, rd, wr, ex, se, ba, bl, bc⟩ = !(ex && se) := by simp [mayBeS, hA, hB]
      rw [hm]
      have b1 : ¬ 4294963200 < fr + ln := by omega
      have b2 : ¬ ln < (bl : Int) := by omega
      cases ex <;> cases se
      all_goals
        go_enter Tryz.func37, Tryz.ntmps37
        go_wp2_with fail
        refine (C.out _).mono ?_
        rintro e w2 ⟨rfl, hw2⟩
        obtain ⟨c0, c1, c2, c3, c4, c5, c6⟩ := (At7.new w ⟨fr, ln, rd, wr, _, _, ba, bl, bc⟩ 67).below hw2 (by simp [alloc_size'])
        simp only [Nat.zero_add] at c0 c1 c2 c3 c4 c5 c6
        go_wp2
        go_ret
        exact ⟨rfl, ((Below.refl _ _).alloc (Nat.le_refl _) _).trans (hw2.mono (by simp [alloc_size']))⟩
    · have hm : mayBeS ⟨fr, ln, rd, wr, ex, se, ba, bl, bc⟩ = false := by
        simp only [mayBeS]
        by_cases q : fr + ln ≤ 4294963200
        · have : ¬ ((bl : Int) ≤ ln) := fun h => hB ⟨q, h⟩
          simp [this]
        · simp [q]
      rw [hm]
      by_cases q : fr + ln ≤ 4294963200
      · have b1 : ¬ 4294963200 < fr + ln := by omega
        have b2 : ln < (bl : Int) := by omega
        go_enter Tryz.func37, Tryz.ntmps37
        go_wp2_with fail
        refine (C.out _).mono ?_
        rintro e w2 ⟨rfl, hw2⟩
        obtain ⟨c0, c1, c2, c3, c4, c5, c6⟩ := (At7.new w ⟨fr, ln, rd, wr, _, _, ba, bl, bc⟩ 67).below hw2 (by simp [alloc_size'])
        simp only [Nat.zero_add] at c0 c1 c2 c3 c4 c5 c6
        go_wp2
        go_ret
        exact ⟨rfl, ((Below.refl _ _).alloc (Nat.le_refl _) _).trans (hw2.mono (by simp [alloc_size']))⟩
      · have b1 : 4294963200 < fr + ln := by omega
        go_enter Tryz.func37, Tryz.ntmps37
        go_wp2_with fail
        refine (C.out _).mono ?_
        rintro e w2 ⟨rfl, hw2⟩
        obtain ⟨c0, c1, c2, c3, c4, c5, c6⟩ := (At7.new w ⟨fr, ln, rd, wr, _, _, ba, bl, bc⟩ 67).below hw2 (by simp [alloc_size'])
        simp only [Nat.zero_add] at c0 c1 c2 c3 c4 c5 c6
        go_wp2
        go_ret
        exact ⟨rfl, ((Below.refl _ _).alloc (Nat.le_refl _) _).trans (hw2.mono (by simp [alloc_size']))⟩
  · have hm : mayBeS ⟨fr, ln, rd, wr, ex, se, ba, bl, bc⟩ = false := by
      simp only [mayBeS]
      by_cases q : fr % 4 = 0
      · by_cases q2 : ln % 4 = 0
        · have : ln = 0 := by
            by_cases q3 : ln = 0
            · exact q3
            · exact absurd ⟨q, q2, q3⟩ hA
          simp [this]
        · simp [q2]
      · simp [q]
    rw [hm]
    clear C
    by_cases q : fr % 4 = 0
    · have a1 : (fr % 4 == 0) = true := by simpa using q
      by_cases q2 : ln % 4 = 0
      · have a2 : (ln % 4 == 0) = true := by simpa using q2
        have a3 : (ln == 0) = true := by
          by_cases q3 : ln = 0
          · simpa using q3
          · exact absurd ⟨q, q2, q3⟩ hA
        go_enter Tryz.func37, Tryz.ntmps37
        go_wp2
        go_ret
        exact ⟨rfl, (Below.refl _ _).alloc (Nat.le_refl _) _⟩
      · have a2 : (ln % 4 == 0) = false := by simpa using q2
        go_enter Tryz.func37, Tryz.ntmps37
        go_wp2
        go_ret
        exact ⟨rfl, (Below.refl _ _).alloc (Nat.le_refl _) _⟩
    · have a1 : (fr % 4 == 0) = false := by simpa using q
      go_enter Tryz.func37, Tryz.ntmps37
      go_wp2
      go_ret
      exact ⟨rfl, (Below.refl _ _).alloc (Nat.le_refl _) _⟩
end Go.Proofs.YtjhmmfpmmgebjaaGreat
namespace Go.Proofs.YtjhmmfpmmgebjaaGreat
open Go.ChangeShapes Go.WideShapes Go.ChangeAt Go.RowKit
set_option linter.unusedVariables false
set_option linter.unusedSimpArgs false

/-- The regions that lie behind a slice. -/
def Lies (w : World) (A : Option Addr) (n : Nat) (R : Nat → Reg) : Prop :=
  (n : Int) ≤ 9223372036854775807 ∧ ∀ i, i < n → (R i).wf ∧ ∃ b o, A = some ⟨b, o, none⟩ ∧ At7 w b (o + i * 7) (R i)
theorem Lies.below {B : Nat} {w w' : World} {A : Option Addr} {n : Nat} {R : Nat → Reg} (h : Lies w A n R) (hb : Below B w w') (hB : w.heap.size ≤ B) : Lies w' A n R :=
  ⟨h.1, fun i hi => by
    obtain ⟨h1, b, o, ha, h7⟩ := h.2 i hi
    exact ⟨h1, b, o, ha, h7.below hb (Nat.lt_of_lt_of_le h7.lt hB)⟩⟩

def tooRel (w : World) (R : Nat → Reg) (n : Nat) (s i : Value) (wr : World) : Prop :=
  ∃ k : Nat, k ≤ n ∧ s = .int .u64 (sumS R k) ∧ i = .int .i64 k ∧ Below w.heap.size w wr

theorem tooMuch_c (A : Option Addr) (n c : Nat) (R : Nat → Reg) (w : World) (hl : Lies w A n R) : Calls Tryz.prog 36 #[.slice A n c] w fun e w' => e = .returned (.bool (tooS R n)) ∧ Below w.heap.size w w' := by
  have hn := hl.1
  by_cases h8 : 8 < n
  · have h8' : (8 : Int) < n := by omega
    have : tooS R n = true := by simp [tooS, h8]
    rw [this]
    go_enter Tryz.func36, Tryz.ntmps36
    go_wp2
    go_ret
    exact ⟨rfl, Below.refl _ _⟩
  · have h8' : ¬ (8 : Int) < n := by omega
    have hL : Hid (Lies w A n R) := hl
    clear hl
    have hst : tooRel w R n (.int .u64 0) (.int .i64 0) w := ⟨0, Nat.zero_le _, rfl, rfl, Below.refl _ _⟩
    go_enter Tryz.func36, Tryz.ntmps36
    go_wp2
    go_loopw [3, 11] (fun s i wr => tooRel w R n s i wr) (fun _ i _ => n - (intOf i).toNat)
    case atStart => exact hst
    case round =>
      obtain ⟨k, hk, rfl, rfl, hb⟩ := hrel
      have hs := sumS_bounds R k (fun i hi => (hL.out.2 i (by omega)).1)
      obtain ⟨hs0, hs1⟩ := hs
      have hs1' : sumS R k ≤ 4294967295 * 8 := by omega
      by_cases hkn : k < n
      · obtain ⟨hw, b, o, rfl, h7⟩ := hL.out.2 k hkn
        obtain ⟨c0, c1, c2, c3, c4, c5, c6⟩ := h7.below hb h7.lt
        have hkn' : (k : Int) < n := by omega
        obtain ⟨q1, q2, q3, q4, q5⟩ := hw
        have HB : Hid _ := And.intro hb h7
        clear hb h7 hs1
        go_wp2
        refine ⟨⟨k + 1, hkn, rfl, rfl, HB.out.1.alloc HB.out.1.size _⟩, ?_⟩
        simp only [intOf]
        omega
      · have kn : k = n := by omega
        subst kn
        have ht : tooS R k = decide (65536 < sumS R k) := by simp [tooS, h8]
        have HT : Hid _ := ht
        clear hs1 hkn ht
        go_wp2
        go_ret
        exact ⟨by rw [HT.out]; rfl, hb⟩

def chkRel (w : World) (R : Nat → Reg) (n : Nat) (s i : Value) (wr : World) : Prop :=
  ∃ k : Nat, k ≤ n ∧ goodS R k = true ∧ s = .int .u64 (freeS R k) ∧ i = .int .i64 k ∧ Below w.heap.size w wr

theorem freeS_bounds (R : Nat → Reg) (n : Nat) (h : ∀ i, i < n → (R i).wf) : 0 ≤ freeS R n ∧ freeS R n ≤ 8589934590 := by
  cases n with
  | zero => simp [freeS]
  | succ n =>
    have h2 := h n (by omega)
    unfold Reg.wf at h2
    simp only [freeS, endS]
    omega

set_option maxHeartbeats 2000000 in
theorem check_c (A : Option Addr) (n c : Nat) (R : Nat → Reg) (w : World) (hl : Lies w A n R) : Calls Tryz.prog 16 #[.slice A n c] w fun e w' => e = .returned (.int .i64 (checkS R n)) ∧ Below w.heap.size w w' := by
  have hn := hl.1
  have hL : Hid (Lies w A n R) := hl
  have T : Hid _ := tooMuch_c A n c R w hl
  clear hl
  cases ht : tooS R n with
  | true =>
    have : checkS R n = 22 := by simp [checkS, ht]
    rw [this]
    rw [ht] at T
    go_enter Tryz.func16, Tryz.ntmps16
    go_wp2_with fail
    refine Calls.mono T.out ?_
    rintro e w1 ⟨rfl, hw1⟩
    go_wp2
    go_ret
    exact ⟨rfl, hw1⟩
  | false =>
    have hck : Hid (checkS R n = if goodS R n then 0 else 23) := by show _ = _; simp [checkS, ht]
    rw [ht] at T
    go_enter Tryz.func16, Tryz.ntmps16
    go_wp2_with fail
    refine Calls.mono T.out ?_
    rintro e w1 ⟨rfl, hw1⟩
    have HW1 : Hid _ := hw1
    clear hw1 T
    go_wp2_with fail
    go_loopw [3, 10] (fun s i wr => chkRel w R n s i wr) (fun _ i _ => n - (intOf i).toNat)
    case atStart => exact ⟨0, Nat.zero_le _, rfl, rfl, rfl, HW1.out⟩
    case round =>
      obtain ⟨k, hk, hg, rfl, rfl, hb⟩ := hrel
      obtain ⟨f0, f1⟩ := freeS_bounds R k (fun i hi => (hL.out.2 i (by omega)).1)
      by_cases hkn : k < n
      · obtain ⟨hw, b, o, rfl, h7⟩ := hL.out.2 k hkn
        obtain ⟨c0, c1, c2, c3, c4, c5, c6⟩ := h7.below hb h7.lt
        have hkn' : (k : Int) < n := by omega
        have M : Hid _ := fun (w : World) => mayBe_c (R k) hw w
        have E : Hid _ := fun (w : World) => end_c (R k) hw w
        obtain ⟨q1, q2, q3, q4, q5⟩ := hw
        have HB : Hid _ := And.intro hb h7
        clear hb h7
        have HG : Hid _ := hg
        clear hg
        by_cases hf : freeS R k ≤ (R k).fr
        · have hf' : ¬ (R k).fr < freeS R k := by omega
          unfold Reg.val at M E
          go_wp2_with fail
          refine (M.out _).mono ?_
          rintro e w2 ⟨rfl, hw2⟩
          obtain ⟨d0, d1, d2, d3, d4, d5, d6⟩ := (At7.new wr (R k) 67).below hw2 (by simp [alloc_size'])
          simp only [Nat.zero_add] at d0 d1 d2 d3 d4 d5 d6
          have HB2 : Hid (Below w.heap.size w w2) := (HB.out.1.alloc HB.out.1.size _).trans (hw2.mono (by rw [alloc_size']; exact Nat.le_succ_of_le HB.out.1.size))
          clear hw2
          cases hm : mayBeS (R k) with
          | true =>
            have HG2 : Hid (goodS R (k + 1) = true) := by show _ = _; simp [goodS, HG.out, hm, hf]
            go_wp2_with fail
            refine (E.out _).mono ?_
            rintro e w3 ⟨rfl, hw3⟩
            go_wp2
            refine ⟨⟨k + 1, hkn, HG2.out, rfl, rfl, HB2.out.trans (hw3.mono HB2.out.size)⟩, ?_⟩
            simp only [intOf]
            omega
          | false =>
            have hgn : goodS R n = false := goodS_bad R hkn (by simp [hm])
            have HG2 : Hid (checkS R n = 23) := by rw [hck.out, hgn]; rfl
            clear hgn
            go_wp2_with fail
            go_ret
            exact ⟨by rw [HG2.out]; rfl, HB2.out⟩
        · have hf' : (R k).fr < freeS R k := by omega
          have hgn : goodS R n = false := goodS_bad R hkn (by simp [hf])
          have HG2 : Hid (checkS R n = 23) := by rw [hck.out, hgn]; rfl
          clear hgn
          go_wp2_with fail
          go_ret
          exact ⟨by rw [HG2.out]; rfl, HB.out.1.alloc HB.out.1.size _⟩
      · have kn : k = n := by omega
        subst kn
        have HG2 : Hid (checkS R k = 0) := by rw [hck.out, hg]; rfl
        clear hg
        go_wp2
        go_ret
        exact ⟨by rw [HG2.out]; rfl, hb⟩
end Go.Proofs.YtjhmmfpmmgebjaaGreat
namespace Go.Proofs.YtjhmmfpmmgebjaaGreat
open Go.ChangeShapes Go.WideShapes Go.ChangeAt Go.RowKit
set_option linter.unusedVariables false
set_option linter.unusedSimpArgs false

theorem widthS_bounds (s : Int) : 1 ≤ widthS s ∧ widthS s ≤ 4 := by
  unfold widthS
  split
  · omega
  · omega

def fndRel (w : World) (R : Nat → Reg) (n : Nat) (a s : Int) (i : Value) (wr : World) : Prop :=
  ∃ k : Nat, k ≤ n ∧ firstS R a s k = none ∧ i = .int .i64 k ∧ Below w.heap.size w wr

set_option maxHeartbeats 2000000 in
theorem find_c (A : Option Addr) (n c : Nat) (R : Nat → Reg) (a s : Int) (ha : 0 ≤ a) (ha' : a ≤ 4294967295) (w : World) (hl : Lies w A n R) :
    Calls Tryz.prog 106 #[.slice A n c, .int .u32 a, .int .u32 s] w fun e w' => e = .returned (.tuple #[.int .i64 ((findS R n a s).getD 0 : Nat), .bool (findS R n a s).isSome]) ∧ Below w.heap.size w w' := by
  have hn := hl.1
  have hL : Hid (Lies w A n R) := hl
  have T : Hid _ := check_c A n c R w hl
  have W : Hid _ := fun (w : World) => width_c s w
  obtain ⟨v1, v2⟩ := widthS_bounds s
  clear hl
  by_cases hc : checkS R n = 0
  · have HF : Hid (findS R n a s = firstS R a (widthS s) n) := by show _ = _; simp [findS, hc]
    rw [hc] at T
    clear hc
    generalize widthS s = v at *
    go_enter Tryz.func106, Tryz.ntmps106
    go_wp2_with fail
    refine Calls.mono T.out ?_
    rintro e w1 ⟨rfl, hw1⟩
    have HW1 : Hid _ := hw1
    clear hw1 T
    go_wp2_with fail
    refine (W.out _).mono ?_
    rintro e w2 ⟨rfl, hw2⟩
    replace hw2 := hw2.symm
    subst hw2
    clear W
    go_wp2_with fail
    go_loopw [23] (fun i wr => fndRel w R n a v i wr) (fun i _ => n - (intOf i).toNat)
    case atStart => exact ⟨0, Nat.zero_le _, rfl, rfl, HW1.out⟩
    case round =>
      obtain ⟨k, hk, hg, rfl, hb⟩ := hrel
      by_cases hkn : k < n
      · obtain ⟨hw, b, o, rfl, h7⟩ := hL.out.2 k hkn
        obtain ⟨c0, c1, c2, c3, c4, c5, c6⟩ := h7.below hb h7.lt
        have hkn' : (k : Int) < n := by omega
        have E : Hid _ := fun (w : World) => end_c (R k) hw w
        obtain ⟨q1, q2, q3, q4, q5⟩ := hw
        have HB : Hid _ := And.intro hb h7
        clear hb h7
        have HG : Hid _ := hg
        clear hg
        unfold Reg.val at E
        by_cases hf : (R k).fr ≤ a
        · go_wp2_with fail
          refine (E.out _).mono ?_
          rintro e w3 ⟨rfl, hw3⟩
          have HB2 : Hid (Below w.heap.size w w3) := (HB.out.1.alloc HB.out.1.size _).trans (hw3.mono (by rw [alloc_size']; exact Nat.le_succ_of_le HB.out.1.size))
          clear hw3
          simp only [endS] at *
          by_cases hh : a + v ≤ (R k).fr + (R k).ln
          · have hh' : a + v - 1 < (R k).fr + (R k).ln := by omega
            have HR : Hid (findS R n a s = some k) := HF.out.trans (firstS_hit R a v hkn HG.out (by simp [hitS, hf, hh]))
            go_wp2
            go_ret2
            exact ⟨by rw [HR.out]; rfl, HB2.out⟩
          · have hh' : ¬ a + v - 1 < (R k).fr + (R k).ln := by omega
            have HR : Hid (firstS R a v (k + 1) = none) := by show _ = _; simp [firstS, HG.out, hitS, hh]
            go_wp2
            refine ⟨⟨k + 1, hkn, HR.out, rfl, HB2.out⟩, ?_⟩
            simp only [intOf]
            omega
        · have HR : Hid (firstS R a v (k + 1) = none) := by show _ = _; simp [firstS, HG.out, hitS, hf]
          go_wp2
          refine ⟨⟨k + 1, hkn, HR.out, rfl, HB.out.1.alloc HB.out.1.size _⟩, ?_⟩
          simp only [intOf]
          omega
      · have kn : k = n := by omega
        subst kn
        have HR : Hid (findS R k a s = none) := HF.out.trans hg
        clear hg
        go_wp2
        go_ret2
        exact ⟨by rw [HR.out]; rfl, hb⟩
  · have HR : Hid (findS R n a s = none) := by show _ = _; simp [findS, hc]
    have hc' : (checkS R n == 0) = false := by simpa using hc
    clear hc
    go_enter Tryz.func106, Tryz.ntmps106
    go_wp2_with fail
    refine Calls.mono T.out ?_
    rintro e w1 ⟨rfl, hw1⟩
    go_wp2
    go_ret2
    exact ⟨by rw [HR.out]; rfl, hw1⟩

theorem found_c (A : Option Addr) (n c : Nat) (R : Nat → Reg) (a s : Int) (ha : 0 ≤ a) (ha' : a ≤ 4294967295) (w : World) (hl : Lies w A n R) :
    Calls Tryz.prog 105 #[.slice A n c, .int .u32 a, .int .u32 s] w fun e w' => e = .returned (.tuple #[(regS R (findS R n a s)).val, .bool (findS R n a s).isSome]) ∧ Below w.heap.size w w' := by
  have hn := hl.1
  have T : Hid _ := fun (w : World) (hl : Lies w A n R) => find_c A n c R a s ha ha' w hl
  have hL : Hid (Lies w A n R) := hl
  have hlt : ∀ i, findS R n a s = some i → i < n := fun i h => findS_lt R h
  clear hl
  generalize findS R n a s = f at *
  cases f with
  | none =>
    simp only [regS, Option.isSome_none, Option.getD_none, noReg, Reg.val] at *
    go_enter Tryz.func105, Tryz.ntmps105
    go_wp2_with fail
    refine (T.out _ (hL.out.below ((Below.refl _ _).alloc (Nat.le_refl _) _) (Nat.le_refl _))).mono ?_
    rintro e w1 ⟨rfl, hw1⟩
    obtain ⟨d0, d1, d2, d3, d4, d5, d6⟩ := (At7.new w noReg 67).below hw1 (by simp [alloc_size'])
    have fz : ∀ j, w1.frozen? ⟨w.heap.size, j, none⟩ = false := fun j => (hw1.frozen (by simp [alloc_size'])).trans (World.frozen?_alloc_at _ _ _ _ rfl)
    simp only [Nat.zero_add, noReg] at d0 d1 d2 d3 d4 d5 d6
    have HB : Hid (Below w.heap.size w w1) := ((Below.refl _ _).alloc (Nat.le_refl _) _).trans (hw1.mono (by simp [alloc_size']))
    clear hw1
    go_wp2
    (try simp only [Exit.inBlock, Exit.then])
    refine bodyPost_ret (v := .tuple #[.agg #[.int .u32 0, .int .u32 0, .bool false, .bool false, .bool false, .bool false, .slice none 0 0], .bool false]) ?_ rfl ⟨rfl, ?_⟩
    · rw [results_cell_tmp rfl]
      go_simp
    · exact (((((((HB.out.setCell (Nat.le_refl _) _).setCell (Nat.le_refl _) _).setCell (Nat.le_refl _) _).setCell (Nat.le_refl _) _).setCell (Nat.le_refl _) _).setCell (Nat.le_refl _) _).setCell (Nat.le_refl _) _)
  | some i =>
    have hi := hlt i rfl
    have hi' : (i : Int) < n := by omega
    clear hlt
    obtain ⟨hw, b, o, rfl, h7⟩ := hL.out.2 i hi
    simp only [regS, Option.isSome_some, Option.getD_some, Reg.val] at *
    go_enter Tryz.func105, Tryz.ntmps105
    go_wp2_with fail
    refine (T.out _ (hL.out.below ((Below.refl _ _).alloc (Nat.le_refl _) _) (Nat.le_refl _))).mono ?_
    rintro e w1 ⟨rfl, hw1⟩
    obtain ⟨d0, d1, d2, d3, d4, d5, d6⟩ := (At7.new w noReg 67).below hw1 (by simp [alloc_size'])
    have fz : ∀ j, w1.frozen? ⟨w.heap.size, j, none⟩ = false := fun j => (hw1.frozen (by simp [alloc_size'])).trans (World.frozen?_alloc_at _ _ _ _ rfl)
    simp only [Nat.zero_add, noReg] at d0 d1 d2 d3 d4 d5 d6
    obtain ⟨c0, c1, c2, c3, c4, c5, c6⟩ := (h7.below ((Below.refl _ _).alloc (Nat.le_refl _) _) h7.lt).below hw1 (Nat.lt_trans h7.lt (by simp [alloc_size']))
    have hbl := h7.lt
    have hne : ¬ b = w.heap.size := by omega
    have hne' : ¬ w.heap.size = b := by omega
    clear h7
    have HB : Hid (Below w.heap.size w w1) := ((Below.refl _ _).alloc (Nat.le_refl _) _).trans (hw1.mono (by simp [alloc_size']))
    clear hw1
    go_wp2
    (try simp only [Exit.inBlock, Exit.then])
    refine bodyPost_ret (v := .tuple #[.agg #[.int .u32 (R i).fr, .int .u32 (R i).ln, .bool (R i).rd, .bool (R i).wr, .bool (R i).ex, .bool (R i).se, .slice (R i).ba (R i).bl (R i).bc], .bool true]) ?_ rfl ⟨rfl, ?_⟩
    · rw [results_cell_tmp rfl]
      go_simp
    · exact (((((((HB.out.setCell (Nat.le_refl _) _).setCell (Nat.le_refl _) _).setCell (Nat.le_refl _) _).setCell (Nat.le_refl _) _).setCell (Nat.le_refl _) _).setCell (Nat.le_refl _) _).setCell (Nat.le_refl _) _)
end Go.Proofs.YtjhmmfpmmgebjaaGreat
namespace Go.Proofs.YtjhmmfpmmgebjaaGreat
open Go.ChangeShapes Go.WideShapes Go.ChangeAt Go.RowKit
set_option linter.unusedVariables false
set_option linter.unusedSimpArgs false

set_option maxHeartbeats 2000000 in
theorem may_c (A : Option Addr) (n c : Nat) (R : Nat → Reg) (a s : Int) (ha : 0 ≤ a) (ha' : a ≤ 4294967295) (wri : Bool) (w : World) (hl : Lies w A n R) :
    Calls Tryz.prog 100 #[.slice A n c, .int .u32 a, .int .u32 s, .bool wri] w fun e w' => e = .returned (.int .i64 (mayS R n a s wri)) ∧ Below w.heap.size w w' := by
  have F : Hid _ := fun (w : World) (hl : Lies w A n R) => found_c A n c R a s ha ha' w hl
  have hL : Hid (Lies w A n R) := hl
  have T : Hid _ := check_c A n c R w hl
  have W : Hid _ := fun (w : World) => width_c s w
  obtain ⟨v1, v2⟩ := widthS_bounds s
  clear hl
  by_cases hc : checkS R n = 0
  · by_cases hm : a % widthS s = 0
    · have hm' : (a % widthS s == 0) = true := by simpa using hm
      have HV : Hid (mayS R n a s wri = if (findS R n a s).isSome && (if wri then (regS R (findS R n a s)).wr else (regS R (findS R n a s)).rd) then 0 else 24) := by
        show _ = _
        simp only [mayS, hc, hm, ne_eq, not_true_eq_false, if_false]
      generalize mayS R n a s wri = V at *
      rw [hc] at T
      clear hc hm
      generalize widthS s = v at *
      generalize regS R (findS R n a s) = g at *
      generalize (findS R n a s).isSome = ok at *
      obtain ⟨fr, ln, rd, wr, ex, se, ba, bl, bc⟩ := g
      simp only [Reg.val] at F
      cases ok <;> cases wri <;> cases rd <;> cases wr
      all_goals
        simp only [Bool.and_true, Bool.and_false, Bool.true_and, Bool.false_and, if_true, if_false, Bool.false_eq_true, reduceIte] at HV
        go_enter Tryz.func100, Tryz.ntmps100
        go_wp2_with fail
        refine Calls.mono T.out ?_
        rintro e w1 ⟨rfl, hw1⟩
        have HW1 : Hid _ := hw1
        clear hw1
        go_wp2_with fail
        refine (W.out _).mono ?_
        rintro e w2 ⟨rfl, hw2⟩
        replace hw2 := hw2.symm
        subst hw2
        go_wp2_with fail
        refine (F.out _ (hL.out.below HW1.out (Nat.le_refl _))).mono ?_
        rintro e w3 ⟨rfl, hw3⟩
        have HW3 : Hid (Below w.heap.size w w3) := HW1.out.trans (hw3.mono HW1.out.size)
        clear hw3
        go_wp2
        go_ret
        exact ⟨by rw [HV.out]; rfl, HW3.out.alloc HW3.out.size _⟩
    · have hm' : (a % widthS s == 0) = false := by simpa using hm
      have HV : Hid (mayS R n a s wri = 25) := by
        show _ = _
        simp only [mayS, hc, hm, ne_eq, not_true_eq_false, not_false_eq_true, if_false, if_true]
      generalize mayS R n a s wri = V at *
      rw [hc] at T
      clear hc hm
      generalize widthS s = v at *
      go_enter Tryz.func100, Tryz.ntmps100
      go_wp2_with fail
      refine Calls.mono T.out ?_
      rintro e w1 ⟨rfl, hw1⟩
      have HW1 : Hid _ := hw1
      clear hw1
      go_wp2_with fail
      refine (W.out _).mono ?_
      rintro e w2 ⟨rfl, hw2⟩
      replace hw2 := hw2.symm
      subst hw2
      go_wp2
      go_ret
      exact ⟨by rw [HV.out]; rfl, HW1.out⟩
  · have hc' : (checkS R n == 0) = false := by simpa using hc
    have HV : Hid (mayS R n a s wri = 24) := by
      show _ = _
      simp [mayS, hc]
    generalize mayS R n a s wri = V at *
    clear hc
    go_enter Tryz.func100, Tryz.ntmps100
    go_wp2_with fail
    refine Calls.mono T.out ?_
    rintro e w1 ⟨rfl, hw1⟩
    go_wp2
    go_ret
    exact ⟨by rw [HV.out]; rfl, hw1⟩
end Go.Proofs.YtjhmmfpmmgebjaaGreat
namespace Go.Proofs.YtjhmmfpmmgebjaaGreat
open Go.ChangeShapes Go.WideShapes Go.ChangeAt Go.RowKit
set_option linter.unusedVariables false
set_option linter.unusedSimpArgs false

/-- Bytes as cells. -/
def cb (bs : List Int) : List Value := bs.map fun x => Value.int .u8 x
theorem cb_length (bs : List Int) : (cb bs).length = bs.length := by simp [cb]
theorem cb_at (bs : List Int) (j : Nat) : (cb bs)[j]? = bs[j]?.map (fun x => Value.int .u8 x) := by simp [cb]
theorem cb_append (a b : List Int) : cb (a ++ b) = cb a ++ cb b := by simp [cb]
theorem cb_zeros (k : Nat) : cb (List.replicate k 0) = List.replicate k (Value.int .u8 0) := by simp [cb]
theorem cb_one (bs : List Int) : ∀ u ∈ cb bs, u.oneCell' = true := by
  intro u hu
  obtain ⟨x, _, rfl⟩ := List.mem_map.1 hu
  rfl
theorem cb_set (bs : List Int) (j : Nat) (x : Int) : (cb bs).set j (.int .u8 x) = cb (bs.set j x) := by simp [cb, List.map_set]

def okB (bs : List Int) : Prop := ∀ x ∈ bs, 0 ≤ x ∧ x ≤ 255

/-- The bytes bs lie behind the slice v, in a block of which S holds. -/
def BL (w : World) (S : Nat → Prop) (v : Value) (bs : List Int) : Prop :=
  okB bs ∧ ∃ A c, v = .slice A bs.length c ∧ (A = none → c = 0 ∧ bs = []) ∧
    ∀ j x, bs[j]? = some x → ∃ b o, A = some ⟨b, o, none⟩ ∧ S b ∧ w.cell? ⟨b, o + j, none⟩ = some (.int .u8 x)

theorem BL.mono {w : World} {S S' : Nat → Prop} {v : Value} {bs : List Int} (h : BL w S v bs) (hS : ∀ b, S b → S' b) : BL w S' v bs := by
  obtain ⟨h0, A, c, h1, h2, h3⟩ := h
  refine ⟨h0, A, c, h1, h2, fun j x hx => ?_⟩
  obtain ⟨b, o, e1, e2, e3⟩ := h3 j x hx
  exact ⟨b, o, e1, hS _ e2, e3⟩
theorem BL.kept {w w' : World} {S : Nat → Prop} {v : Value} {bs : List Int} (h : BL w S v bs) (hS : ∀ b, S b → b < w.heap.size → w'.heap[b]? = w.heap[b]?) : BL w' S v bs := by
  obtain ⟨h0, A, c, h1, h2, h3⟩ := h
  refine ⟨h0, A, c, h1, h2, fun j x hx => ?_⟩
  obtain ⟨b, o, e1, e2, e3⟩ := h3 j x hx
  refine ⟨b, o, e1, e2, (World.cell?_of_block (w := w) (a := ⟨b, o + j, none⟩) (hS b e2 ?_)).trans e3⟩
  exact World.block_lt_of_cell? w ⟨b, o + j, none⟩ e3
theorem BL.below {w w' : World} {S : Nat → Prop} {v : Value} {bs : List Int} (h : BL w S v bs) (hb : Below w.heap.size w w') : BL w' S v bs :=
  h.kept fun b _ hb' => hb.block b hb'

/-- A row of the call's own as bytes that lie. -/
theorem BL.own {w : World} {base : Nat} {v : Value} {bs : List Int} (h0 : okB bs) (h : w.ownsRow base 5 1 v bs.length (cb bs)) : BL w (fun b => base ≤ b ∧ b < w.heap.size) v bs := by
  refine ⟨h0, ?_⟩
  have h' := h
  obtain ⟨_, ⟨rfl, hn⟩ | ⟨g, cap, cur, rfl, hb, hg, hc, hm, _⟩⟩ := h
  · have : bs = [] := List.eq_nil_of_length_eq_zero hn
    subst this
    exact ⟨none, 0, rfl, fun _ => ⟨rfl, rfl⟩, fun j x hx => by simp at hx⟩
  · refine ⟨some ⟨g, 0, none⟩, cap, rfl, fun h => (by cases h), fun j x hx => ?_⟩
    have hj : j < bs.length := (List.getElem?_eq_some_iff.1 hx).1
    have hc := h'.cellAt j (by omega)
    rw [cb_at, hx] at hc
    refine ⟨g, 0, rfl, ⟨hb, World.block_lt_of_cell? w ⟨g, j, none⟩ hc⟩, ?_⟩
    rw [Nat.zero_add]
    exact hc

/-- What is to be appended: the cells behind the source. -/
theorem BL.news {w : World} {S : Nat → Prop} {A : Addr} {c n : Nat} {bs : List Int} (h : BL w S (.slice (some A) n c) bs) : ∀ j u, (cb bs)[j]? = some u → w.cell? (A.add j) = some u := by
  obtain ⟨_, A', c', h1, _, h3⟩ := h
  simp only [Value.slice.injEq] at h1
  obtain ⟨rfl, rfl, rfl⟩ := h1
  intro j u hu
  rw [cb_at] at hu
  cases hx : bs[j]? with
  | none => rw [hx] at hu; cases hu
  | some x =>
    rw [hx] at hu
    simp only [Option.map_some, Option.some.injEq] at hu
    obtain ⟨b, o, e1, _, e3⟩ := h3 j x hx
    cases e1
    have hadd : (⟨b, o, none⟩ : Addr).add j = ⟨b, o + j, none⟩ := by unfold Addr.add; split <;> simp_all
    rw [hadd, e3, hu]

theorem zeroCells_one (z : Value) (n : Nat) : Builtin.zeroCells #[z] n = (List.replicate n z).toArray := by
  apply Array.ext'
  apply List.ext_getElem?
  intro j
  by_cases hj : j < n
  · simp [Builtin.zeroCells, hj, Nat.mod_one]
  · simp [Builtin.zeroCells, hj]

theorem run_append_own_zeros {P : Program} (w : World) (base : Nat) (t tn ty e : TypeId) (i : TypeInfo) (z : Value) (kq kn : IntKind) (ht : P.underlying t = some (.slice e)) (htn : P.underlying tn = some (.int kn)) (hi : P.info? e = some i) (hz : i.zero = some z)
    (hsize : i.size = 1) (hby : i.bytes = 1) (hzc : z.cells = #[z]) (hz1 : z.oneCell' = true)
    (v : Value) (n : Nat) (xs : List Value) (hown : w.ownsRow base e 1 v n xs) (k : Nat) (hk : n + k ≤ 140737488355328) (hbase : base ≤ w.heap.size) :
    ∃ v' w', (Builtin.append_ #[t, tn] ty #[v, .int kq k]).run P w = .ok v' w' ∧ w'.ownsRow base e 1 v' (n + k) (xs ++ List.replicate k z) ∧ w.grownBy w' v.ownBlock ∧
      (v'.ownBlock = v.ownBlock ∨ v'.ownBlock = some w.heap.size) := by
  have hlen : (xs ++ List.replicate k z).length = (n + k) * 1 := by rw [List.length_append, hown.1, List.length_replicate]; omega
  have hw : IntKind.i64.wrap (k : Int) = k := by rw [IntKind.wrap_i64]; omega
  have hw0 : IntKind.i64.wrap (0 : Int) = 0 := by rw [IntKind.wrap_i64]; rfl
  have hneg : ¬ ((k : Int) < 0) := by omega
  have h48 : ¬ (281474976710656 < (k : Int)) := by omega
  have hml : n + k ≤ maxLen := by simp only [maxLen]; omega
  have grown : ∀ (old : Nat), old < n + k → ∀ (row : Option Nat),
      (w.drew.alloc (.cells (xs.toArray ++ Builtin.zeroCells z.cells k ++ Builtin.zeroCells z.cells (grownCap w (n + k) old e - (n + k))) e)).ownsRow base e 1
        (.slice (some ⟨w.heap.size, 0, none⟩) (n + k) (grownCap w (n + k) old e)) (n + k) (xs ++ List.replicate k z) ∧
      w.grownBy (w.drew.alloc (.cells (xs.toArray ++ Builtin.zeroCells z.cells k ++ Builtin.zeroCells z.cells (grownCap w (n + k) old e - (n + k))) e)) row := by
    intro old ho row
    have hge := grownCap_ge w (n + k) old e
    have hcm : grownCap w (n + k) old e ≤ maxLen := grownCap_le_maxLen w (n + k) old e hml
    rw [hzc, zeroCells_one, zeroCells_one]
    refine ⟨⟨hlen, .inr ⟨w.heap.size, _, _, rfl, hbase, heap_alloc_new w.drew _, hge, hcm, ?_, ?_⟩⟩, ⟨rfl, rfl, rfl, by simp, fun k hk _ => Below.heap_alloc w.drew _ k hk⟩⟩
    · simp only [Array.size_append, List.size_toArray, List.length_replicate, hown.1]
      omega
    · simp only [Array.toList_append, List.append_assoc]
      rw [← List.append_assoc, ← hlen]
      exact List.take_left
  rcases hown.2 with ⟨rfl, rfl⟩ | ⟨g, cap, cur, rfl, hbg, hg, hnc, hcm, hcs, htake⟩
  · have hx : xs = [] := List.eq_nil_of_length_eq_zero (by simpa using hown.1)
    subst hx
    by_cases hm : k = 0
    · subst hm
      refine ⟨.slice none 0 0, w, ?_, World.ownsRow_nil w base e 1, ⟨rfl, rfl, rfl, Nat.le_refl _, fun _ _ _ => rfl⟩, Or.inl rfl⟩
      simp [Builtin.append_, run_underlying ht, run_underlying htn, sizeOf, typeInfo, hi, asInt, asIntOf, hsize, hby, hw0]
    · have hr := Lib.run_append_nil_zeros (P := P) w t tn ty e i z kq kn ht htn hi hz k (by omega) (by omega) (by omega) (by rw [hby]; omega)
      have hgr := grown 0 (by omega) (Value.ownBlock (.slice none 0 0))
      simp only [Nat.zero_add, List.nil_append, Array.empty_append] at hgr ⊢
      exact ⟨_, _, hr, hgr.1, hgr.2, Or.inr rfl⟩
  · by_cases hroom : n + k ≤ cap
    · have hst := run_storeCells_at P g n e (List.replicate k z) 0 cur w hg (by simp; omega) (by intro v hv; rw [(List.mem_replicate.1 hv).2]; exact hz1)
      simp only [Nat.add_zero] at hst
      refine ⟨.slice (some ⟨g, 0, none⟩) (n + k) cap, w.setRow g (cur.toList.take n ++ List.replicate k z ++ cur.toList.drop (n + (List.replicate k z).length)).toArray, ?_, ⟨hlen, .inr ⟨g, cap, _, rfl, hbg, setRow_heap w g cur _ e _ hg, hroom, hcm, ?_, ?_⟩⟩, ⟨rfl, rfl, rfl, by simp, fun k _ hk => setRow_other w g k _ (fun e => hk (by simp [Value.ownBlock, e]))⟩, Or.inl rfl⟩
      · by_cases hk0 : k = 0
        · subst hk0
          simp only [List.replicate_zero] at hst ⊢
          simp [Builtin.append_, run_underlying ht, run_underlying htn, sizeOf, typeInfo, zeroValue, hi, hz, asInt, asIntOf, hsize, hby, hnc, storeCells, hw0] at hst ⊢
          exact hst
        · simp [Builtin.append_, run_underlying ht, run_underlying htn, sizeOf, typeInfo, zeroValue, hi, hz, asInt, asIntOf, hw, hneg, h48, hsize, hby, hroom, hzc, zeroCells_one, Addr.add_lit, hst, hk0]
      · simp only [List.size_toArray, List.length_append, List.length_take, List.length_drop, Array.length_toList, List.length_replicate]
        omega
      · simp only [Nat.mul_one] at htake
        rw [htake, ← hlen]
        exact List.take_left
    · have holds : ∀ j u, xs[j]? = some u → w.cell? ((⟨g, 0, none⟩ : Addr).add j) = some u := hown.cells (g := g) rfl
      have hf := run_firstCells_some (P := P) w.drew i.size n ⟨g, 0, none⟩ n cap xs (by rw [hsize]; exact hown.1) holds
      have hr := Lib.run_append_grow_zeros (P := P) w t tn ty e i z kq kn ht htn hi hz (some ⟨g, 0, none⟩) n cap xs hf k (by omega) (by omega) (by omega) (by omega) (by rw [hby]; omega) (growslice_fits (by omega) (by rw [hby]; omega))
      have hgr := grown cap (by omega) (Value.ownBlock (.slice (some ⟨g, 0, none⟩) n cap))
      exact ⟨_, _, hr, hgr.1, hgr.2, Or.inr rfl⟩

/-- At a step of a region that draws its order. -/
theorem step_append_zeros {P : Program} (w : World) {ops : Array Oper} {o : Oper} {a : Act} {K : Act → World → Prop} {Q : Exit → Act → World → Prop} {E : Prop} (hgd : o.guard = none) (s x : Operand) (t tn : TypeId)
    (ho : o.op = .call { callee := .builtin .append, args := #[s, x], argTypes := #[t, tn] })
    (base : Nat) (e : TypeId) (i : TypeInfo) (z : Value) (kq kn : IntKind) (ht : P.underlying t = some (.slice e)) (htn : P.underlying tn = some (.int kn)) (hi : P.info? e = some i) (hz : i.zero = some z)
    (hsize : i.size = 1) (hby : i.bytes = 1) (hzc : z.cells = #[z]) (hz1 : z.oneCell' = true)
    (v : Value) (n : Nat) (xs : List Value) (hs : a.eval s = v) (hown : w.ownsRow base e 1 v n xs) (k : Nat) (hx : a.eval x = .int kq k) (hk : n + k ≤ 140737488355328) (hbase : base ≤ w.heap.size)
    (h : ∀ v' w', w'.ownsRow base e 1 v' (n + k) (xs ++ List.replicate k z) → w.grownBy w' v.ownBlock → (v'.ownBlock = v.ownBlock ∨ v'.ownBlock = some w.heap.size) → K (a.put o.dst v') w') :
    if Region.wanted o (yielded ops a.tmps) = true then Oper.wp P o a w K Q else E := by
  have hw : Region.wanted o (yielded ops a.tmps) = true := by simp [Region.wanted, hgd]
  rw [if_pos hw]
  obtain ⟨v', w', hr, h2, h3, h4⟩ := run_append_own_zeros (P := P) w base t tn o.type e i z kq kn ht htn hi hz hsize hby hzc hz1 v n xs hown k hk hbase
  exact Lib.wp_append_run w s x t tn ho v (.int kq k) hs hx v' w' hr (h v' w' h2 h3 h4)

/-- Alike but for the blocks from lo up to hi. -/
structure Mid (lo hi : Nat) (w w' : World) : Prop where
  os : w'.os = w.os
  tape : w'.tape = w.tape
  output : w'.output = w.output
  size : w.heap.size ≤ w'.heap.size
  block : ∀ k, k < w.heap.size → (k < lo ∨ hi ≤ k) → w'.heap[k]? = w.heap[k]?
theorem Mid.refl (lo hi : Nat) (w : World) : Mid lo hi w w := ⟨rfl, rfl, rfl, Nat.le_refl _, fun _ _ _ => rfl⟩
theorem Mid.trans {lo hi : Nat} {a b c : World} (h : Mid lo hi a b) (k : Mid lo hi b c) : Mid lo hi a c :=
  ⟨k.os.trans h.os, k.tape.trans h.tape, k.output.trans h.output, Nat.le_trans h.size k.size, fun i hi hk => (k.block i (Nat.lt_of_lt_of_le hi h.size) hk).trans (h.block i hi hk)⟩
theorem Mid.below {lo hi : Nat} {w w' : World} (h : Mid lo hi w w') (hl : lo ≤ w.heap.size) : Below lo w w' :=
  ⟨h.os, h.tape, h.output, h.size, fun k hk => h.block k (Nat.lt_of_lt_of_le hk hl) (.inl hk)⟩
theorem Below.mid {w w' : World} (h : Below w.heap.size w w') (lo hi : Nat) : Mid lo hi w w' :=
  ⟨h.os, h.tape, h.output, h.size, fun k hk _ => h.block k hk⟩
theorem Mid.setCell {lo hi : Nat} {a w : World} (h : Mid lo hi a w) {p : Addr} (h1 : lo ≤ p.block) (h2 : p.block < hi) (u : Value) : Mid lo hi a (w.setCell p u) :=
  ⟨h.os, h.tape, h.output, by simpa using h.size, fun k hk hk2 => (Below.heap_setCell w p u k (by omega)).trans (h.block k hk hk2)⟩
end Go.Proofs.YtjhmmfpmmgebjaaGreat
namespace Go.Proofs.YtjhmmfpmmgebjaaGreat
open Go.ChangeShapes Go.WideShapes Go.ChangeAt Go.RowKit
set_option linter.unusedVariables false
set_option linter.unusedSimpArgs false
attribute [local go_sem ↓] Go.wp_at_zero Go.wp_at_succ

theorem infoByte : (Tryz.prog.info? 5).map (fun i => (i.zero, i.size, i.bytes)) = some (some (.int .u8 0), 1, 1) := by kernel_rfl

/-- A new row of bytes comes back. -/
def OwnPost (w : World) (bs : List Int) (e : Ending) (w' : World) : Prop :=
  ∃ A c, e = .returned (.slice A bs.length c) ∧ w'.ownsRow w.heap.size 5 1 (.slice A bs.length c) bs.length (cb bs) ∧ Below w.heap.size w w'

theorem own_mono {w : World} {base base' : Nat} {e : TypeId} {size : Nat} {v : Value} {n : Nat} {xs : List Value} (h : w.ownsRow base e size v n xs) (hb : base' ≤ base) : w.ownsRow base' e size v n xs :=
  ⟨h.1, h.2.imp id fun ⟨g, cap, cur, h1, h2, h3⟩ => ⟨g, cap, cur, h1, Nat.le_trans hb h2, h3⟩⟩
theorem own_shape {w : World} {base : Nat} {e : TypeId} {v : Value} {n : Nat} {xs : List Value} (h : w.ownsRow base e 1 v n xs) : ∃ A c, v = .slice A n c := by
  obtain ⟨_, ⟨rfl, rfl⟩ | ⟨g, cap, cur, rfl, _⟩⟩ := h
  · exact ⟨none, 0, rfl⟩
  · exact ⟨_, _, rfl⟩

set_option maxHeartbeats 1000000 in
theorem copyBytes_c (v : Value) (bs : List Int) (S : Nat → Prop) (w : World) (h : BL w S v bs) (hn : bs.length ≤ 140737488355328) :
    Calls Tryz.prog 39 #[v] w fun e w' => OwnPost w bs e w' := by
  obtain ⟨i0, hi, hz0, hz1, hz2⟩ := info_parts infoByte
  have H : Hid (BL w S v bs) := h
  obtain ⟨A, c, rfl, hA, _⟩ := h.2
  cases A with
  | none =>
    obtain ⟨rfl, rfl⟩ := hA rfl
    have HE : Hid (OwnPost w [] (.returned (.slice none 0 0)) w) := ⟨none, 0, rfl, World.ownsRow_nil _ _ _ _, Below.refl _ _⟩
    simp only [List.length_nil]
    clear hn hA h H
    go_enter Tryz.func39, Tryz.ntmps39
    go_wp2_with (at_builtin; refine wpList_append_own_none rfl _ _ 40 rfl w.heap.size 5 i0 1 Tryz.underlying40 hi _ 0 [] rfl (World.ownsRow_nil _ _ _ _) rfl ?_)
    go_wp2
    go_ret
    exact HE.out
  | some A =>
    clear hA h
    have HN : Hid (bs.length ≤ 140737488355328) := hn
    clear hn
    go_enter Tryz.func39, Tryz.ntmps39
    go_wp2_with (at_builtin; refine wpList_append_own _ rfl _ _ 40 rfl w.heap.size 5 i0 _ 1 1 Tryz.underlying40 hi hz0 hz1 hz2 rfl (by decide) _ 0 [] rfl (World.ownsRow_nil _ _ _ _) A bs.length c (cb bs) rfl (by rw [cb_length]; omega) H.out.news (cb_one _) (by have := HN.out; simp only [maxLen]; omega) (by have := HN.out; omega) (Nat.le_refl _) ?_)
    intro v' w1 hown hg _
    try simp only [Nat.zero_add, List.nil_append] at hown
    obtain ⟨A', c', rfl⟩ := own_shape hown
    have HE : Hid (OwnPost w bs (.returned (.slice A' bs.length c')) w1) := ⟨A', c', rfl, hown, Below.grown (Below.refl _ _) hg (Nat.le_refl _) (fun k hk => by simp [Value.ownBlock] at hk)⟩
    clear hown hg
    go_wp2
    go_ret
    exact HE.out

def fillS (ln : Int) (bs : List Int) : List Int := bs ++ List.replicate (ln.toNat - bs.length) 0
theorem fillS_length {ln : Int} {bs : List Int} (h0 : 0 ≤ ln) (h : (bs.length : Int) ≤ ln) : ((fillS ln bs).length : Int) = ln := by
  simp only [fillS, List.length_append, List.length_replicate]
  omega
theorem fillS_ok {ln : Int} {bs : List Int} (h : okB bs) : okB (fillS ln bs) := by
  intro x hx
  rcases List.mem_append.1 hx with h1 | h1
  · exact h x h1
  · rw [(List.mem_replicate.1 h1).2]; decide

/-- A row and noughts. -/
theorem filled_row {w : World} {base n k : Nat} {v : Value} {bs : List Int} (h : w.ownsRow base 5 1 v (n + k) (cb bs ++ List.replicate k (.int .u8 0))) (hn : n = bs.length) :
    w.ownsRow base 5 1 v (bs ++ List.replicate k 0).length (cb (bs ++ List.replicate k 0)) := by
  subst hn
  rw [List.length_append, List.length_replicate, cb_append, cb_zeros]
  exact h

set_option maxHeartbeats 4000000 in
set_option maxRecDepth 100000 in
theorem filled_c (r : Reg) (bs : List Int) (S : Nat → Prop) (w : World) (hr : r.wf) (hbl : r.bl = bs.length) (h : BL w S (.slice r.ba r.bl r.bc) bs) (hle : (r.bl : Int) ≤ r.ln) (hS : ∀ b, S b → b < w.heap.size) :
    Calls Tryz.prog 18 #[r.val] w fun e w' => OwnPost w (fillS r.ln bs) e w' := by
  obtain ⟨i0, hi, hz0, hz1, hz2⟩ := info_parts infoByte
  obtain ⟨fr, ln, rd, wr, ex, se, ba, bl, bc⟩ := r
  simp only at hbl h hle
  subst hbl
  obtain ⟨h1, h2, h3, h4, h5⟩ := hr
  simp only at h1 h2 h3 h4 h5
  simp only [Reg.val]
  obtain ⟨k, hk⟩ : ∃ k : Nat, ln = (bs.length : Int) + k := ⟨(ln - bs.length).toNat, by omega⟩
  have hks : fillS ln bs = bs ++ List.replicate k 0 := by unfold fillS; congr 2; omega
  rw [hks]
  subst hk
  have hin : bs.length + k ≤ 140737488355328 := by omega
  have hsub : (bs.length : Int) + k - bs.length = k := by omega
  have C : Hid (∀ (v : World), Below w.heap.size w v → Calls Tryz.prog 39 #[.slice ba bs.length bc] v fun e w' => OwnPost v bs e w') :=
    fun v hv => copyBytes_c _ bs S v (h.kept fun b hb hb' => hv.block b hb') (by omega)
  have HN : Hid (bs.length + k ≤ 140737488355328) := hin
  have hw1 : IntKind.i64.wrap ((bs.length : Int) + k) = (bs.length : Int) + k := by rw [IntKind.wrap_i64]; omega
  have hw2 : IntKind.i64.wrap (k : Int) = k := by rw [IntKind.wrap_i64]; omega
  clear hks h hin
  go_enter Tryz.func18, Tryz.ntmps18
  go_wp2_with fail
  obtain ⟨W, hW⟩ : ∃ W, W = w.alloc (Obj.cells #[.int .u32 fr, .int .u32 ((bs.length : Int) + k), .bool rd, .bool wr, .bool ex, .bool se, .slice ba bs.length bc] 67) := ⟨_, rfl⟩
  have c1 : W.cell? ⟨w.heap.size, 1, none⟩ = some (.int .u32 ((bs.length : Int) + k)) := by rw [hW, World.cell?_alloc_new]; rfl
  have c6 : W.cell? ⟨w.heap.size, 6, none⟩ = some (.slice ba bs.length bc) := by rw [hW, World.cell?_alloc_new]; rfl
  have HB : Hid (Below w.heap.size w W) := by rw [hW]; exact (Below.refl _ _).alloc (Nat.le_refl _) _
  have hsz : w.heap.size < W.heap.size := by rw [hW, alloc_size']; omega
  rw [← hW]
  clear hW
  go_region_held3 (fun w' => w'.cell? ⟨w.heap.size, 1, none⟩ = some (.int .u32 ((bs.length : Int) + k)) ∧ w'.cell? ⟨w.heap.size, 6, none⟩ = some (.slice ba bs.length bc))
    (first
      | go_keep
      | (go_split_ands; refine ⟨(hb2.cell hsz).trans ?_, (hb2.cell hsz).trans ?_⟩ <;> assumption)
      | (go_split_ands; refine ⟨(hgrow.cell_far _ (by have := hb2.size; simp at this ⊢; omega) (fun e => by have := (hown2.lt _ e.symm).1; simp at this; omega)).trans ?_, (hgrow.cell_far _ (by have := hb2.size; simp at this ⊢; omega) (fun e => by have := (hown2.lt _ e.symm).1; simp at this; omega)).trans ?_⟩ <;> assumption))
    (first
      | (go_at_call 39; refine (C.out _ HB.out.drew).mono ?_; rintro e w2 ⟨A2, c2, rfl, hown2, hb2⟩)
      | ((refine step_append_zeros _ (by rfl) _ _ _ _ (by rfl) W.heap.size 5 i0 _ .i64 .i64 Tryz.underlying40 Tryz.underlying3 hi hz0 hz1 hz2 rfl rfl _ bs.length (cb bs) (by rfl) hown2 k (by rfl) HN.out hb2.size ?_; intro v3 w3 hown3 hgrow hat)))
  obtain ⟨A3, c3, rfl⟩ := own_shape hown3
  have hb3 : Below w.heap.size w w3 := Below.grown (HB.out.drew.trans (hb2.mono (Nat.le_of_lt hsz))) hgrow (Nat.le_trans (Nat.le_of_lt hsz) hb2.size) (fun j hj => by have := (hown2.lt _ hj).1; simp at this; omega)
  have HE : Hid (OwnPost w (bs ++ List.replicate k 0) (.returned (.slice A3 (bs.length + k) c3)) w3) := by
    refine ⟨A3, c3, by simp, ?_, hb3⟩
    have h9 := filled_row (own_mono hown3 (Nat.le_of_lt hsz)) rfl
    have h8 : (bs ++ List.replicate k 0).length = bs.length + k := by simp
    rw [h8] at h9 ⊢
    exact h9
  clear hown3 hgrow hat hb3 hown2 hb2
  go_wp2
  go_ret
  exact HE.out
end Go.Proofs.YtjhmmfpmmgebjaaGreat
namespace Go.Proofs.YtjhmmfpmmgebjaaGreat
open Go.ChangeShapes Go.WideShapes Go.ChangeAt Go.RowKit
set_option linter.unusedVariables false
set_option linter.unusedSimpArgs false

def Reg.cells (r : Reg) : List Value := [.int .u32 r.fr, .int .u32 r.ln, .bool r.rd, .bool r.wr, .bool r.ex, .bool r.se, .slice r.ba r.bl r.bc]
def cellsOf (rs : List Reg) : List Value := rs.flatMap Reg.cells
def regAt (rs : List Reg) (i : Nat) : Reg := rs.getD i noReg
theorem regAt_some {rs : List Reg} {i : Nat} {r : Reg} (h : rs[i]? = some r) : regAt rs i = r := by simp [regAt, List.getD, h]

theorem cellsOf_length (rs : List Reg) : (cellsOf rs).length = rs.length * 7 := by
  induction rs with
  | nil => rfl
  | cons r rs ih =>
    simp only [cellsOf, List.flatMap_cons, List.length_append, List.length_cons] at ih ⊢
    rw [ih]
    simp [Reg.cells]
    omega
theorem cellsOf_at (rs : List Reg) (i j : Nat) (hi : i < rs.length) (hj : j < 7) : (cellsOf rs)[i * 7 + j]? = (regAt rs i).cells[j]? := by
  induction rs generalizing i with
  | nil => simp at hi
  | cons r rs ih =>
    have hc : cellsOf (r :: rs) = r.cells ++ cellsOf rs := by simp [cellsOf]
    rw [hc]
    match i with
    | 0 =>
      rw [List.getElem?_append_left (by simp [Reg.cells]; omega)]
      simp [regAt]
    | i + 1 =>
      rw [List.getElem?_append_right (by simp [Reg.cells]; omega)]
      have h := ih i (by simpa using hi)
      have e1 : (i + 1) * 7 + j - r.cells.length = i * 7 + j := by simp [Reg.cells]; omega
      rw [e1, h]
      simp [regAt]
theorem cellsOf_one (rs : List Reg) : ∀ u ∈ cellsOf rs, u.oneCell' = true := by
  intro u hu
  obtain ⟨r, _, hu⟩ := List.mem_flatMap.1 hu
  simp only [Reg.cells, List.mem_cons, List.not_mem_nil, or_false] at hu
  rcases hu with rfl | rfl | rfl | rfl | rfl | rfl | rfl <;> rfl

/-- A region with other bytes. -/
def Reg.put (r : Reg) (A : Option Addr) (m c : Nat) : Reg := { r with ba := A, bl := m, bc := c }
def Reg.bare (r : Reg) : Reg := { r with ba := none, bc := 0 }
theorem cellsOf_set (rs : List Reg) (k : Nat) (hk : k < rs.length) (A : Option Addr) (m c : Nat) : (cellsOf rs).set (k * 7 + 6) (.slice A m c) = cellsOf (rs.set k ((regAt rs k).put A m c)) := by
  induction rs generalizing k with
  | nil => simp at hk
  | cons r rs ih =>
    have hc : ∀ (r : Reg) rs, cellsOf (r :: rs) = r.cells ++ cellsOf rs := fun r rs => by simp [cellsOf]
    match k with
    | 0 => simp [hc, Reg.cells, Reg.put, regAt]
    | k + 1 =>
      have e1 : (k + 1) * 7 + 6 = r.cells.length + (k * 7 + 6) := by simp [Reg.cells]; omega
      have e2 : regAt (r :: rs) (k + 1) = regAt rs k := by simp [regAt]
      rw [hc, e1, List.set_append_right _ _ (by omega), Nat.add_sub_cancel_left, ih k (by simpa using hk), List.set_cons_succ, hc, e2]

theorem lies_own {w : World} {base : Nat} {v : Value} {n : Nat} {rs : List Reg} (h : w.ownsRow base 67 7 v n (cellsOf rs)) (hl : rs.length = n) (hw : ∀ r ∈ rs, r.wf) :
    ∃ A c, v = .slice A n c ∧ Lies w A n (regAt rs) ∧ (A = none → c = 0 ∧ rs = []) ∧ ∀ b o, A = some ⟨b, o, none⟩ → base ≤ b ∧ b < w.heap.size := by
  have h' := h
  obtain ⟨_, ⟨rfl, rfl⟩ | ⟨g, cap, cur, rfl, hb, hg, hc, hm, _⟩⟩ := h
  · exact ⟨none, 0, rfl, ⟨by decide, fun i hi => absurd hi (Nat.not_lt_zero _)⟩, fun _ => ⟨rfl, List.eq_nil_of_length_eq_zero hl⟩, fun b o h => (by cases h)⟩
  · refine ⟨some ⟨g, 0, none⟩, cap, rfl, ⟨?_, fun i hi => ⟨?_, g, 0, rfl, ?_⟩⟩, fun h => (by cases h), fun b o h => ?_⟩
    · simp only [maxLen] at hm
      omega
    · have hi' : i < rs.length := by omega
      have : regAt rs i = rs[i] := by simp [regAt, List.getD, hi']
      rw [this]
      exact hw _ (List.getElem_mem hi')
    · have key : ∀ j, j < 7 → w.cell? ⟨g, 0 + i * 7 + j, none⟩ = (regAt rs i).cells[j]? := fun j hj => by
        rw [Nat.zero_add, h'.cellAt (i * 7 + j) (by omega)]
        exact cellsOf_at rs i j (by omega) hj
      exact ⟨key 0 (by decide), key 1 (by decide), key 2 (by decide), key 3 (by decide), key 4 (by decide), key 5 (by decide), key 6 (by decide)⟩
    · simp only [Option.some.injEq, Addr.mk.injEq, and_true] at h
      obtain ⟨rfl, rfl⟩ := h
      exact ⟨hb, (Array.getElem?_eq_some_iff.1 hg).1⟩

/-- The regions Bs, told without their addresses, lie behind v with their bytes G, in blocks of which S holds. -/
def RL (w : World) (S : Nat → Prop) (v : Value) (Bs : List Reg) (G : List (List Int)) : Prop :=
  ∃ rs : List Reg, rs.map Reg.bare = Bs ∧ G.length = rs.length ∧ ∃ A c, v = .slice A rs.length c ∧ (A = none → c = 0 ∧ rs = []) ∧ (∀ b o, A = some ⟨b, o, none⟩ → rs ≠ [] → S b) ∧ Lies w A rs.length (regAt rs) ∧
    ∀ (i : Nat) (r : Reg) (g : List Int), rs[i]? = some r → G[i]? = some g → r.bl = g.length ∧ BL w S (.slice r.ba r.bl r.bc) g

theorem At7.kept {w w' : World} {b o : Nat} {r : Reg} (h : At7 w b o r) (hb : w'.heap[b]? = w.heap[b]?) : At7 w' b o r := by
  obtain ⟨h0, h1, h2, h3, h4, h5, h6⟩ := h
  have key : ∀ k, w'.cell? ⟨b, k, none⟩ = w.cell? ⟨b, k, none⟩ := fun k => World.cell?_of_block (w := w) (a := ⟨b, k, none⟩) hb
  exact ⟨(key _).trans h0, (key _).trans h1, (key _).trans h2, (key _).trans h3, (key _).trans h4, (key _).trans h5, (key _).trans h6⟩
theorem Lies.kept {w w' : World} {A : Option Addr} {n : Nat} {R : Nat → Reg} (h : Lies w A n R) (hb : ∀ b o, A = some ⟨b, o, none⟩ → 0 < n → b < w.heap.size → w'.heap[b]? = w.heap[b]?) : Lies w' A n R :=
  ⟨h.1, fun i hi => by
    obtain ⟨h1, b, o, ha, h7⟩ := h.2 i hi
    exact ⟨h1, b, o, ha, h7.kept (hb b o ha (by omega) h7.lt)⟩⟩
theorem RL.kept {w w' : World} {S : Nat → Prop} {v : Value} {Bs : List Reg} {G : List (List Int)} (h : RL w S v Bs G) (hS : ∀ b, S b → b < w.heap.size → w'.heap[b]? = w.heap[b]?) : RL w' S v Bs G := by
  obtain ⟨rs, h1, h2, A, c, h3, h4, h5, h6, h7⟩ := h
  refine ⟨rs, h1, h2, A, c, h3, h4, h5, h6.kept (fun b o ha hn hlt => hS b (h5 b o ha ?_) hlt), fun i r g hr hg => ⟨(h7 i r g hr hg).1, (h7 i r g hr hg).2.kept hS⟩⟩
  intro e
  rw [e] at hn
  exact absurd hn (Nat.not_lt_zero _)
theorem RL.below {w w' : World} {S : Nat → Prop} {v : Value} {Bs : List Reg} {G : List (List Int)} (h : RL w S v Bs G) (hb : Below w.heap.size w w') : RL w' S v Bs G := h.kept fun b _ hb' => hb.block b hb'
theorem RL.mono {w : World} {S S' : Nat → Prop} {v : Value} {Bs : List Reg} {G : List (List Int)} (h : RL w S v Bs G) (hS : ∀ b, S b → S' b) : RL w S' v Bs G := by
  obtain ⟨rs, h1, h2, A, c, h3, h4, h5, h6, h7⟩ := h
  exact ⟨rs, h1, h2, A, c, h3, h4, fun b o ha hn => hS _ (h5 b o ha hn), h6, fun i r g hr hg => ⟨(h7 i r g hr hg).1, (h7 i r g hr hg).2.mono hS⟩⟩

theorem infoReg : (Tryz.prog.info? 67).map (fun i => (i.zero, i.size, i.bytes)) = some (some (.agg #[.int .u32 0, .int .u32 0, .bool false, .bool false, .bool false, .bool false, .slice none 0 0]), 7, 40) := by kernel_rfl

/-- A copied list comes back. -/
def CopPost (w : World) (Bs : List Reg) (G : List (List Int)) (e : Ending) (w' : World) : Prop :=
  ∃ A c, e = .returned (.slice A Bs.length c) ∧ RL w' (fun b => w.heap.size ≤ b ∧ b < w'.heap.size) (.slice A Bs.length c) Bs G ∧ Below w.heap.size w w'

theorem lies_news {w : World} {A : Addr} {rs : List Reg} (h : Lies w (some A) rs.length (regAt rs)) : ∀ j u, (cellsOf rs)[j]? = some u → w.cell? (A.add j) = some u := by
  intro j u hu
  have hj : j < rs.length * 7 := by rw [← cellsOf_length]; exact (List.getElem?_eq_some_iff.1 hu).1
  obtain ⟨i, m, hm, rfl⟩ : ∃ i m, m < 7 ∧ j = i * 7 + m := ⟨j / 7, j % 7, Nat.mod_lt _ (by decide), by omega⟩
  have hi : i < rs.length := by omega
  obtain ⟨_, b, o, ha, h7⟩ := h.2 i hi
  cases ha
  have hadd : (⟨b, o, none⟩ : Addr).add (i * 7 + m) = ⟨b, o + i * 7 + m, none⟩ := by unfold Addr.add; split <;> simp_all [Nat.add_assoc]
  rw [hadd, ← hu, cellsOf_at rs i m hi hm]
  obtain ⟨c0, c1, c2, c3, c4, c5, c6⟩ := h7
  have h8 : m = 0 ∨ m = 1 ∨ m = 2 ∨ m = 3 ∨ m = 4 ∨ m = 5 ∨ m = 6 := by omega
  rcases h8 with rfl | rfl | rfl | rfl | rfl | rfl | rfl
  · exact c0
  · exact c1
  · exact c2
  · exact c3
  · exact c4
  · exact c5
  · exact c6

/-- The copying loop: the first k have bytes of their own. -/
def copRel (w w1 : World) (S : Nat → Prop) (v1 : Value) (rs : List Reg) (G : List (List Int)) (i : Value) (wr : World) : Prop :=
  ∃ (k : Nat) (rs' : List Reg), k ≤ rs.length ∧ i = .int .i64 k ∧ rs'.length = rs.length ∧ rs'.map Reg.bare = rs.map Reg.bare ∧ wr.ownsRow w.heap.size 67 7 v1 rs.length (cellsOf rs') ∧
    (∀ (j : Nat) (r : Reg) (g : List Int), rs'[j]? = some r → G[j]? = some g → r.bl = g.length ∧ (j < k → BL wr (fun b => w1.heap.size ≤ b ∧ b < wr.heap.size) (.slice r.ba r.bl r.bc) g) ∧ (k ≤ j → BL wr S (.slice r.ba r.bl r.bc) g)) ∧
    Below w.heap.size w wr ∧ w1.heap.size ≤ wr.heap.size

theorem bare_wf {r r' : Reg} (h : r.bare = r'.bare) (hr : r.wf) : r'.wf := by
  obtain ⟨fr, ln, rd, wr, ex, se, ba, bl, bc⟩ := r
  obtain ⟨fr', ln', rd', wr', ex', se', ba', bl', bc'⟩ := r'
  simp only [Reg.bare, Reg.mk.injEq] at h
  obtain ⟨rfl, rfl, rfl, rfl, rfl, rfl, _, rfl, _⟩ := h
  exact hr
theorem bare_at {rs rs' : List Reg} (h : rs'.map Reg.bare = rs.map Reg.bare) (i : Nat) : (regAt rs' i).bare = (regAt rs i).bare := by
  have h1 : (rs'.map Reg.bare)[i]? = (rs.map Reg.bare)[i]? := by rw [h]
  simp only [List.getElem?_map] at h1
  simp only [regAt, List.getD]
  cases ha : rs'[i]? <;> cases hb : rs[i]? <;> simp_all

theorem wf_all {w : World} {A : Option Addr} {rs rs' : List Reg} (hl : Lies w A rs.length (regAt rs)) (hlen : rs'.length = rs.length) (hm : rs'.map Reg.bare = rs.map Reg.bare) : ∀ r ∈ rs', r.wf := by
  intro r hr
  obtain ⟨i, hi, rfl⟩ := List.getElem_of_mem hr
  have h2 := (hl.2 i (by omega)).1
  have e1 : regAt rs' i = rs'[i] := by simp [regAt, List.getD, hi]
  rw [← e1]
  exact bare_wf (bare_at hm i).symm h2

theorem set_same {α : Type} {l : List α} {k : Nat} {x : α} (h : l[k]? = some x) : l.set k x = l := by
  apply List.ext_getElem?
  intro j
  rw [List.getElem?_set]
  split
  · rename_i e
    subst e
    split
    · exact h.symm
    · rename_i h2
      rw [List.getElem?_eq_none (by omega)] at h
      cases h
  · rfl

/-- The round's end. -/
theorem cop_next {w w1 wr w2 : World} {S : Nat → Prop} {b c1 k : Nat} {rs rs' : List Reg} {G : List (List Int)} {gk : List Int} {A3 : Option Addr} {c3 : Nat}
    (HS : ∀ b, S b → b < w.heap.size) (hl' : rs'.length = rs.length) (hm' : rs'.map Reg.bare = rs.map Reg.bare) (hkn : k < rs.length) (hgk : G[k]? = some gk) (q1 : (regAt rs' k).bl = gk.length) (HK : okB gk)
    (HR : ∀ (j : Nat) (r : Reg) (g : List Int), rs'[j]? = some r → G[j]? = some g → r.bl = g.length ∧ (j < k → BL wr (fun b => w1.heap.size ≤ b ∧ b < wr.heap.size) (.slice r.ba r.bl r.bc) g) ∧ (k ≤ j → BL wr S (.slice r.ba r.bl r.bc) g))
    (hb : Below w.heap.size w wr) (hsz : w1.heap.size ≤ wr.heap.size) (HA2 : w.heap.size ≤ b ∧ b < w1.heap.size)
    (hst : (w2.setCell ⟨b, k * 7 + 6, none⟩ (.slice A3 gk.length c3)).ownsRow w.heap.size 67 7 (.slice (some ⟨b, 0, none⟩) rs.length c1) rs.length ((cellsOf rs').set (k * 7 + 6) (.slice A3 gk.length c3)))
    (hown3 : w2.ownsRow wr.heap.size 5 1 (.slice A3 gk.length c3) gk.length (cb gk)) (hb3 : Below wr.heap.size wr w2) :
    copRel w w1 S (.slice (some ⟨b, 0, none⟩) rs.length c1) rs G (.int .i64 ((k : Int) + 1)) (w2.setCell ⟨b, k * 7 + 6, none⟩ (.slice A3 gk.length c3)) := by
  have hk' : k < rs'.length := by omega
  have hsame : ∀ j, j ≠ b → (w2.setCell ⟨b, k * 7 + 6, none⟩ (.slice A3 gk.length c3)).heap[j]? = w2.heap[j]? := fun j hj => Below.heap_setCell w2 _ _ j hj
  have hsz2 : (w2.setCell ⟨b, k * 7 + 6, none⟩ (.slice A3 gk.length c3)).heap.size = w2.heap.size := by simp
  refine ⟨k + 1, rs'.set k ((regAt rs' k).put A3 gk.length c3), hkn, by push_cast; rfl, by simp [hl'], ?_, ?_, ?_, ?_, ?_⟩
  · rw [List.map_set, ← hm']
    apply set_same
    rw [List.getElem?_map, show rs'[k]? = some (regAt rs' k) by simp [regAt, List.getD, hk']]
    simp [Reg.bare, Reg.put, q1]
  · rw [← cellsOf_set rs' k hk']
    exact hst
  · intro j r g hr hg
    rw [List.getElem?_set] at hr
    split at hr
    · rename_i e
      subst e
      try rw [if_pos hk'] at hr
      simp only [Option.some.injEq] at hr
      subst hr
      rw [hgk] at hg
      simp only [Option.some.injEq] at hg
      subst hg
      refine ⟨rfl, fun _ => ?_, fun h => absurd h (by omega)⟩
      refine ((BL.own HK hown3).kept fun j hj1 hj2 => hsame j (by omega)).mono fun j hj => ?_
      rw [hsz2]
      omega
    · rename_i hne
      obtain ⟨p1, p2, p3⟩ := HR j r g hr hg
      refine ⟨p1, fun h => ?_, fun h => ?_⟩
      · refine ((p2 (by omega)).kept fun j hj1 hj2 => (hsame j (by omega)).trans (hb3.block j hj2)).mono fun j hj => ?_
        have := hb3.size
        rw [hsz2]
        omega
      · exact (p3 (by omega)).kept fun j hj1 hj2 => (hsame j (by have := HS j hj1; omega)).trans (hb3.block j hj2)
  · exact (hb.trans (hb3.mono hb.size)).setCell HA2.1 _
  · have := hb3.size
    rw [hsz2]
    omega

set_option maxHeartbeats 4000000 in
theorem copyRegions_c (v : Value) (Bs : List Reg) (G : List (List Int)) (S : Nat → Prop) (w : World) (h : RL w S v Bs G) (hS : ∀ b, S b → b < w.heap.size) (hn : Bs.length ≤ 10) (hG : ∀ g ∈ G, g.length ≤ 140737488355328) :
    Calls Tryz.prog 17 #[v] w fun e w' => CopPost w Bs G e w' := by
  obtain ⟨i0, hi, hz0, hz1, hz2⟩ := info_parts infoReg
  obtain ⟨rs, hBs, hGl, A, c, rfl, hA, hA2, hL, hB⟩ := h
  have hlen : Bs.length = rs.length := by rw [← hBs, List.length_map]
  -- the way behind the append
  have HL : Hid (Lies w A rs.length (regAt rs)) := hL
  have HGl : Hid (G.length = rs.length) := hGl
  have HBs : Hid (rs.map Reg.bare = Bs) := hBs
  have HB : Hid (∀ (i : Nat) (r : Reg) (g : List Int), rs[i]? = some r → G[i]? = some g → r.bl = g.length ∧ BL w S (.slice r.ba r.bl r.bc) g) := hB
  have HS : Hid (∀ b, S b → b < w.heap.size) := hS
  have HG : Hid (∀ g ∈ G, g.length ≤ 140737488355328) := hG
  rw [hlen] at hn
  have hnI : (rs.length : Int) ≤ 10 := by omega
  have HP : Hid (∀ e w', (∃ A c, e = .returned (.slice A rs.length c) ∧ RL w' (fun b => w.heap.size ≤ b ∧ b < w'.heap.size) (.slice A rs.length c) Bs G ∧ Below w.heap.size w w') → CopPost w Bs G e w') := by
    intro e w' h
    unfold CopPost
    rw [hlen]
    exact h
  clear hL hGl hBs hB hS hG hlen hA2
  have START : Hid (∀ (v1 : Value) (w1 : World), w1.ownsRow w.heap.size 67 7 v1 rs.length (cellsOf rs) → Below w.heap.size w w1 → copRel w w1 S v1 rs G (.int .i64 0) w1) := by
    intro v1 w1 ho hb
    refine ⟨0, rs, Nat.zero_le _, rfl, rfl, rfl, ho, fun j r g hr hg => ?_, hb, Nat.le_refl _⟩
    obtain ⟨q1, q2⟩ := HB.out j r g hr hg
    exact ⟨q1, fun h => absurd h (Nat.not_lt_zero _), fun _ => q2.kept (fun b hb1 hb2 => hb.block b hb2)⟩
  cases A with
  | none =>
    obtain ⟨rfl, rfl⟩ := hA rfl
    have HE : Hid (CopPost w Bs G (.returned (.slice none 0 0)) w) := HP.out _ _ ⟨none, 0, rfl, ⟨[], HBs.out, HGl.out, none, 0, rfl, fun _ => ⟨rfl, rfl⟩, fun b o h => (by cases h), HL.out, fun i r g h => (by simp at h)⟩, Below.refl _ _⟩
    simp only [List.length_nil]
    clear hA hn hnI
    go_enter Tryz.func17, Tryz.ntmps17
    go_wp2_with (at_builtin; refine wpList_append_own_none rfl _ _ 38 rfl w.heap.size 67 i0 7 Tryz.underlying38 hi _ 0 [] rfl (World.ownsRow_nil _ _ _ _) rfl ?_)
    go_wp2_with fail
    go_loopw [9] (fun i wr => i = .int .i64 0 ∧ wr = w) (fun i _ => 0)
    case atStart => exact ⟨rfl, rfl⟩
    case round =>
      obtain ⟨rfl, hwr⟩ := hrel
      replace hwr := hwr.symm
      subst hwr
      go_wp2
      go_ret
      exact HE.out
  | some A =>
    clear hA
    go_enter Tryz.func17, Tryz.ntmps17
    go_wp2_with (at_builtin; refine wpList_append_own _ rfl _ _ 38 rfl w.heap.size 67 i0 _ 7 40 Tryz.underlying38 hi hz0 hz1 hz2 rfl (by decide) _ 0 [] rfl (World.ownsRow_nil _ _ _ _) A rs.length c (cellsOf rs) rfl (cellsOf_length rs) (lies_news HL.out) (cellsOf_one _) (by simp only [maxLen]; omega) (by omega) (Nat.le_refl _) ?_)
    intro v1 w1 hown hg _
    try simp only [Nat.zero_add, List.nil_append] at hown
    have hb1 : Below w.heap.size w w1 := Below.grown (Below.refl _ _) hg (Nat.le_refl _) (fun k hk => by simp [Value.ownBlock] at hk)
    have ST : Hid (copRel w w1 S v1 rs G (.int .i64 0) w1) := START.out v1 w1 hown hb1
    obtain ⟨A1, c1, rfl, _, _, hA1⟩ := lies_own hown rfl (wf_all HL.out rfl rfl)
    have HA1 : Hid (∀ b o, A1 = some ⟨b, o, none⟩ → w.heap.size ≤ b ∧ b < w1.heap.size) := hA1
    have HB1 : Hid (Below w.heap.size w w1) := hb1
    clear hown hg hb1 hA1 START
    go_wp2_with fail
    go_loopw [9] (fun i wr => copRel w w1 S (.slice A1 rs.length c1) rs G i wr) (fun i _ => rs.length - (intOf i).toNat)
    case atStart => exact ST.out
    case round =>
      obtain ⟨k, rs', hk, rfl, hl', hm', ho, hrow, hb, hsz⟩ := hrel
      by_cases hkn : k < rs.length
      · have hkn' : (k : Int) < rs.length := by omega
        have hk' : k < rs'.length := by omega
        have hrk : rs'[k]? = some (regAt rs' k) := by simp [regAt, List.getD, hk']
        obtain ⟨gk, hgk⟩ : ∃ g, G[k]? = some g := ⟨G[k]'(by rw [HGl.out]; exact hkn), by simp⟩
        obtain ⟨q1, _, q3⟩ := hrow k _ gk hrk hgk
        have hC := copyBytes_c _ gk S wr (q3 (Nat.le_refl _)) (HG.out _ (List.mem_of_getElem? hgk))
        obtain ⟨A2, c2, hv, hLr, _, hA2⟩ := lies_own ho hl' (wf_all HL.out hl' hm')
        simp only [Value.slice.injEq, true_and] at hv
        obtain ⟨rfl, rfl⟩ := hv
        obtain ⟨hwf, b, o, rfl, h7⟩ := hLr.2 k hkn
        have c6 := h7.2.2.2.2.2.2
        have HK : Hid (okB gk) := (q3 (Nat.le_refl _)).1
        rw [q1] at hC c6
        have ho2 := ho
        have hob : o = 0 := by
          obtain ⟨_, ⟨h, _⟩ | ⟨g, cap, cur, h, _⟩⟩ := ho
          · cases h
          · simp only [Value.slice.injEq, Option.some.injEq, Addr.mk.injEq] at h
            exact h.1.2.1
        subst hob
        simp only [Nat.zero_add] at c6
        have HC : Hid _ := hC
        have HR : Hid _ := hrow
        have HO : Hid _ := ho
        have HBr : Hid _ := And.intro hb hsz
        have HA2 : Hid (w.heap.size ≤ b ∧ b < w1.heap.size) := HA1.out b 0 rfl
        clear hC hrow ho ho2 hb hsz hLr h7 q3 hA2
        go_wp2_with fail
        refine Calls.mono HC.out ?_
        rintro e w2 ⟨A3, c3, rfl, hown3, hb3⟩
        have hbs : b < wr.heap.size := Nat.lt_of_lt_of_le HA2.out.2 HBr.out.2
        have d6 : w2.cell? ⟨b, k * 7 + 6, none⟩ = _ := (hb3.cell hbs).trans c6
        have ho3 : w2.ownsRow w.heap.size 67 7 (.slice (some ⟨b, 0, none⟩) rs.length c1) rs.length (cellsOf rs') :=
          World.ownsRow.kept (row := none) HO.out ⟨hb3.os, hb3.tape, hb3.output, hb3.size, fun j hj _ => hb3.block j hj⟩ (.inr (by simp [Value.ownBlock]))
        have hfz := ho3.frozenAt (k * 7 + 6)
        have hst := ho3.stored (k * 7 + 6) (.slice A3 gk.length c3)
        have HX : Hid _ := And.intro hst (And.intro hown3 hb3)
        clear hst hown3 hb3 ho3 c6
        go_wp2
        go_roundw
        case rel =>
          exact cop_next HS.out hl' hm' hkn hgk q1 HK.out HR.out HBr.out.1 HBr.out.2 HA2.out HX.out.1.1 HX.out.2.1 HX.out.2.2
        case measure =>
          simp only [intOf]
          omega
      · have kn : k = rs.length := by omega
        have HE : Hid (CopPost w Bs G (.returned (.slice A1 rs.length c1)) wr) := by
          obtain ⟨A2, c2, hv, hLr, hn2, hA2⟩ := lies_own ho hl' (wf_all HL.out hl' hm')
          simp only [Value.slice.injEq, true_and] at hv
          obtain ⟨rfl, rfl⟩ := hv
          refine HP.out _ _ ⟨A1, c1, rfl, ⟨rs', hm'.trans HBs.out, by rw [HGl.out, hl'], A1, c1, by rw [hl'], hn2, fun b o ha _ => hA2 b o ha, by rw [hl']; exact hLr, fun i r g hr hg => ?_⟩, hb⟩
          obtain ⟨p1, p2, _⟩ := hrow i r g hr hg
          refine ⟨p1, (p2 ?_).mono fun j hj => ⟨Nat.le_trans HB1.out.size hj.1, hj.2⟩⟩
          have := (List.getElem?_eq_some_iff.1 hr).1
          omega
        clear hrow ho hb hsz hkn hk
        have kn' : ¬ (k : Int) < rs.length := by omega
        clear kn
        go_wp2
        go_ret
        exact HE.out
end Go.Proofs.YtjhmmfpmmgebjaaGreat
namespace Go.Proofs.YtjhmmfpmmgebjaaGreat
open Go.ChangeShapes Go.WideShapes Go.ChangeAt Go.RowKit
set_option linter.unusedVariables false
set_option linter.unusedSimpArgs false
attribute [local go_sem ↓] Go.wp_at_zero Go.wp_at_succ

def Off (q : Nat → Nat) (n b : Nat) : Prop := ∀ i, i < n → b ≠ q i
def Zone (l0 lo hi b : Nat) : Prop := b < l0 ∨ (lo ≤ b ∧ b < hi)

structure MemAt (w : World) (p l0 lo hi : Nat) (Bs : List Reg) (G D : List (List Int)) (q : Nat → Nat) : Prop where
  len : D.length = Bs.length
  top : hi ≤ w.heap.size
  pin : lo ≤ p ∧ p < hi ∧ Off q Bs.length p
  inj : ∀ i j, i < Bs.length → j < Bs.length → q i = q j → i = j
  given : ∃ v, w.cell? ⟨p, 0, none⟩ = some v ∧ RL w (fun b => Zone l0 lo hi b ∧ Off q Bs.length b) v Bs G
  now : ∃ A nb c, w.cell? ⟨p, 1, none⟩ = some (.slice A Bs.length c) ∧ (A = none → c = 0 ∧ Bs = []) ∧ (Bs ≠ [] → A = some ⟨nb, 0, none⟩ ∧ lo ≤ nb ∧ nb < hi ∧ Off q Bs.length nb) ∧
    ∀ (i : Nat) (d : List Int) (r : Reg), D[i]? = some d → Bs[i]? = some r → okB d ∧ (d.length : Int) = r.ln ∧ q i < hi ∧
      ∃ cap, w.cell? ⟨nb, i, none⟩ = some (.slice (some ⟨q i, 0, none⟩) d.length cap) ∧ w.ownsRow lo 5 1 (.slice (some ⟨q i, 0, none⟩) d.length cap) d.length (cb d)

theorem own_kept {w w' : World} {base : Nat} {e : TypeId} {size : Nat} {g n cap : Nat} {xs : List Value} (h : w.ownsRow base e size (.slice (some ⟨g, 0, none⟩) n cap) n xs) (hb : w'.heap[g]? = w.heap[g]?) :
    w'.ownsRow base e size (.slice (some ⟨g, 0, none⟩) n cap) n xs := by
  refine ⟨h.1, ?_⟩
  rcases h.2 with ⟨h', _⟩ | ⟨g', cap', cur, h', hbase, hg, hr⟩
  · cases h'
  · simp only [Value.slice.injEq, Option.some.injEq, Addr.mk.injEq, and_true, true_and] at h'
    obtain ⟨rfl, rfl⟩ := h'
    exact .inr ⟨g, cap, cur, rfl, hbase, hb.trans hg, hr⟩
theorem cell_kept {w w' : World} {b o : Nat} {v : Value} (h : w.cell? ⟨b, o, none⟩ = some v) (hb : w'.heap[b]? = w.heap[b]?) : w'.cell? ⟨b, o, none⟩ = some v :=
  (World.cell?_of_block (w := w) (a := ⟨b, o, none⟩) hb).trans h

theorem MemAt.kept {w w' : World} {p l0 lo hi : Nat} {Bs : List Reg} {G D : List (List Int)} {q : Nat → Nat} (h : MemAt w p l0 lo hi Bs G D q)
    (hk : ∀ b, Zone l0 lo hi b → b < w.heap.size → w'.heap[b]? = w.heap[b]?) (hs : w.heap.size ≤ w'.heap.size) : MemAt w' p l0 lo hi Bs G D q := by
  obtain ⟨h1, h2, h3, h4, ⟨v, hv1, hv2⟩, A, nb, c, n1, n2, n3, n4⟩ := h
  have hz : ∀ b, lo ≤ b → b < hi → w'.heap[b]? = w.heap[b]? := fun b q1 q2 => hk b (.inr ⟨q1, q2⟩) (Nat.lt_of_lt_of_le q2 h2)
  refine ⟨h1, Nat.le_trans h2 hs, h3, h4, ⟨v, cell_kept hv1 (hz p h3.1 h3.2.1), hv2.kept fun b hb hb2 => hk b hb.1 hb2⟩, A, nb, c, cell_kept n1 (hz p h3.1 h3.2.1), n2, n3, fun i d r hd hr => ?_⟩
  obtain ⟨m1, m2, m3, cap, m4, m5⟩ := n4 i d r hd hr
  have hne : Bs ≠ [] := by
    intro e
    rw [e] at hr
    simp at hr
  have hq := (m5.lt (q i) rfl).1
  exact ⟨m1, m2, m3, cap, cell_kept m4 (hz nb (n3 hne).2.1 (n3 hne).2.2.1), own_kept m5 (hz _ hq m3)⟩
theorem MemAt.below {w w' : World} {p l0 lo hi : Nat} {Bs : List Reg} {G D : List (List Int)} {q : Nat → Nat} (h : MemAt w p l0 lo hi Bs G D q) (hb : Below w.heap.size w w') : MemAt w' p l0 lo hi Bs G D q :=
  h.kept (fun b _ hlt => hb.block b hlt) hb.size
/-- Another memory's stores. -/
theorem MemAt.mid {w w' : World} {p l0 lo hi lo' hi' : Nat} {Bs : List Reg} {G D : List (List Int)} {q : Nat → Nat} (h : MemAt w p l0 lo hi Bs G D q) (hm : Mid lo' hi' w w') (h0 : l0 ≤ lo') (h1 : hi ≤ lo' ∨ hi' ≤ lo) : MemAt w' p l0 lo hi Bs G D q :=
  h.kept (fun b hz hlt => hm.block b hlt (by rcases hz with h2 | h2 <;> omega)) hm.size

/-! ### What a right list has -/
theorem sumS_bare (R : Nat → Reg) (n : Nat) : sumS (fun i => (R i).bare) n = sumS R n := by
  induction n with
  | zero => rfl
  | succ n ih => simp only [sumS, ih]; rfl
theorem freeS_bare (R : Nat → Reg) (n : Nat) : freeS (fun i => (R i).bare) n = freeS R n := by cases n <;> rfl
theorem goodS_bare (R : Nat → Reg) (n : Nat) : goodS (fun i => (R i).bare) n = goodS R n := by
  induction n with
  | zero => rfl
  | succ n ih => simp only [goodS, ih, freeS_bare]; rfl
theorem checkS_bare (R : Nat → Reg) (n : Nat) : checkS (fun i => (R i).bare) n = checkS R n := by
  unfold checkS tooS
  rw [sumS_bare, goodS_bare]
theorem firstS_bare (R : Nat → Reg) (a s : Int) (n : Nat) : firstS (fun i => (R i).bare) a s n = firstS R a s n := by
  induction n with
  | zero => rfl
  | succ n ih => simp only [firstS, ih]; rfl
theorem findS_bare (R : Nat → Reg) (n : Nat) (a s : Int) : findS (fun i => (R i).bare) n a s = findS R n a s := by simp only [findS, checkS_bare, firstS_bare]
theorem mayS_bare (R : Nat → Reg) (n : Nat) (a s : Int) (wr : Bool) : mayS (fun i => (R i).bare) n a s wr = mayS R n a s wr := by
  simp only [mayS, checkS_bare, findS_bare]
  cases findS R n a s <;> rfl
theorem execS_bare (R : Nat → Reg) (n : Nat) (a : Int) : execS (fun i => (R i).bare) n a = execS R n a := by
  simp only [execS, findS_bare]
  cases findS R n a 2 <;> rfl
theorem regAt_bare (rs : List Reg) : regAt (rs.map Reg.bare) = fun i => (regAt rs i).bare := by
  funext i
  simp only [regAt, List.getD, List.getElem?_map]
  cases rs[i]? <;> rfl

theorem goodS_at {R : Nat → Reg} {n : Nat} (h : goodS R n = true) : ∀ i, i < n → mayBeS (R i) = true := by
  intro i hi
  have := goodS_le R (k := i + 1) hi h
  simp only [goodS, Bool.and_eq_true] at this
  exact this.2.2
theorem sumS_at {R : Nat → Reg} {n : Nat} (h : ∀ i, i < n → 0 ≤ (R i).ln) : ∀ i, i < n → (R i).ln ≤ sumS R n := by
  induction n with
  | zero => intro i hi; omega
  | succ n ih =>
    intro i hi
    have h0 : 0 ≤ sumS R n := by
      clear ih hi
      induction n with
      | zero => simp [sumS]
      | succ m ihm =>
        have := ihm (fun i hi => h i (by omega))
        have := h m (by omega)
        simp only [sumS]
        omega
    have hn := h n (by omega)
    simp only [sumS]
    rcases Nat.lt_or_ge i n with h1 | h1
    · have := ih (fun i hi => h i (by omega)) i h1
      omega
    · have : i = n := by omega
      subst this
      omega
theorem check_ok {R : Nat → Reg} {n : Nat} (h : checkS R n = 0) (hw : ∀ i, i < n → (R i).wf) : n ≤ 8 ∧ ∀ i, i < n → mayBeS (R i) = true ∧ ((R i).bl : Int) ≤ (R i).ln ∧ 4 ≤ (R i).ln ∧ (R i).ln ≤ 65536 := by
  unfold checkS at h
  split at h
  · cases h
  · rename_i ht
    split at h
    · rename_i hg
      have ht' : tooS R n = false := by simpa using ht
      simp only [tooS, Bool.or_eq_false_iff, decide_eq_false_iff_not] at ht'
      refine ⟨by omega, fun i hi => ?_⟩
      have hm := goodS_at hg i hi
      have hs := sumS_at (fun j hj => (hw j hj).2.2.1) i hi
      have h0 := (hw i hi).2.2.1
      refine ⟨hm, ?_⟩
      simp only [mayBeS, Bool.and_eq_true, decide_eq_true_eq] at hm
      omega
    · cases h

def initD (Bs : List Reg) (G : List (List Int)) : List (List Int) := List.zipWith (fun r g => fillS r.ln g) Bs G

theorem infoRow : (Tryz.prog.info? 40).map (fun i => (i.zero, i.size, i.bytes)) = some (some (.slice none 0 0), 1, 24) := by kernel_rfl

theorem new_bad (v : Value) (Bs : List Reg) (G : List (List Int)) (S : Nat → Prop) (w : World) (h : RL w S v Bs G) (hc : checkS (regAt Bs) Bs.length ≠ 0) :
    Calls Tryz.prog 6 #[v] w fun e w' => e = .returned (.tuple #[.pointer none, .int .i64 (checkS (regAt Bs) Bs.length)]) ∧ Below w.heap.size w w' := by
  obtain ⟨rs, rfl, _, A, c, rfl, _, _, hL, _⟩ := h
  have C := check_c A rs.length c (regAt rs) w hL
  rw [regAt_bare, List.length_map, checkS_bare] at hc ⊢
  have HC : Hid _ := C
  clear C
  have hc' : (checkS (regAt rs) rs.length == 0) = false := by simpa using hc
  go_enter Tryz.func6, Tryz.ntmps6
  go_wp2_with fail
  refine Calls.mono HC.out ?_
  rintro e w1 ⟨rfl, hw1⟩
  go_wp2
  go_ret2
  exact ⟨rfl, hw1⟩

/-- The making loop: the first k have their rows. -/
def newRel (w4 : World) (p : Nat) (gv : Value) (D : List (List Int)) (i : Value) (wr : World) : Prop :=
  ∃ (k : Nat) (nv : Value) (vs : List Value) (q : Nat → Nat), k ≤ D.length ∧ i = .int .i64 k ∧ wr.cell? ⟨p, 0, none⟩ = some gv ∧ wr.cell? ⟨p, 1, none⟩ = some nv ∧ wr.frozen? ⟨p, 1, none⟩ = false ∧
    wr.ownsRow (p + 1) 40 1 nv k vs ∧ p < wr.heap.size ∧
    (∀ (i : Nat) (d : List Int), i < k → D[i]? = some d → ∃ cap, vs[i]? = some (.slice (some ⟨q i, 0, none⟩) d.length cap) ∧
      wr.ownsRow (p + 1) 5 1 (.slice (some ⟨q i, 0, none⟩) d.length cap) d.length (cb d)) ∧
    (∀ i, i < k → nv.ownBlock ≠ some (q i) ∧ q i < wr.heap.size ∧ p < q i) ∧ (∀ i j, i < k → j < k → q i = q j → i = j) ∧ Below p w4 wr
theorem newRel_start (w2 : World) (gv : Value) (D : List (List Int)) (t : TypeId) : newRel (w2.alloc (Obj.cells #[gv, .slice none 0 0] t)) w2.heap.size gv D (.int .i64 0) (w2.alloc (Obj.cells #[gv, .slice none 0 0] t)) := by
  refine ⟨0, .slice none 0 0, [], fun _ => 0, Nat.zero_le _, rfl, ?_, ?_, ?_, World.ownsRow_nil _ _ _ _, ?_, fun i d h => absurd h (Nat.not_lt_zero _), fun i h => absurd h (Nat.not_lt_zero _), fun i j h => absurd h (Nat.not_lt_zero _), Below.refl _ _⟩
  · rw [World.cell?_alloc_new]; rfl
  · rw [World.cell?_alloc_new]; rfl
  · exact frozen_of_row _ _ _ _ _ (heap_alloc_new _ _)
  · rw [alloc_size']; omega

/-- The round's end. -/
theorem new_next {W4 wr wA w7 : World} {P k g6 g7 c6 cap7 : Nat} {gv nv : Value} {vs : List Value} {q : Nat → Nat} {D : List (List Int)} {d0 : List Int}
    (hk : k < D.length) (hd0 : D[k]? = some d0) (hp0 : wr.cell? ⟨P, 0, none⟩ = some gv) (hp1 : w7.cell? ⟨P, 1, none⟩ = some nv) (hpf : w7.frozen? ⟨P, 1, none⟩ = false)
    (hown : wr.ownsRow (P + 1) 40 1 nv k vs) (hplt : P < wr.heap.size)
    (hrows : ∀ (i : Nat) (d : List Int), i < k → D[i]? = some d → ∃ cap, vs[i]? = some (.slice (some ⟨q i, 0, none⟩) d.length cap) ∧
      wr.ownsRow (P + 1) 5 1 (.slice (some ⟨q i, 0, none⟩) d.length cap) d.length (cb d))
    (hq : ∀ i, i < k → nv.ownBlock ≠ some (q i) ∧ q i < wr.heap.size ∧ P < q i) (hqi : ∀ i j, i < k → j < k → q i = q j → i = j) (hbe : Below P W4 wr)
    (hbA : Below wr.heap.size wr wA) (h6 : wA.ownsRow wr.heap.size 5 1 (.slice (some ⟨g6, 0, none⟩) d0.length c6) d0.length (cb d0)) (h6A : g6 + 1 < wA.heap.size)
    (h7 : w7.ownsRow (P + 1) 40 1 (.slice (some ⟨g7, 0, none⟩) (k + 1) cap7) (k + 1) (vs ++ [.slice (some ⟨g6, 0, none⟩) d0.length c6])) (hg : wA.grownBy w7 nv.ownBlock)
    (hat : nv.ownBlock = some g7 ∨ g7 = wA.heap.size) :
    newRel W4 P gv D (.int .i64 ((k : Int) + 1)) (w7.setCell ⟨P, 1, none⟩ (.slice (some ⟨g7, 0, none⟩) (k + 1) cap7)) := by
  have hnv : ∀ g, nv.ownBlock = some g → P < g ∧ g < wr.heap.size := fun g e => hown.lt g e
  have hg6 := (h6.lt g6 rfl).1
  have hvl : vs.length = k := by have := hown.1; omega
  have hlow : ∀ j, j < wr.heap.size → some j ≠ nv.ownBlock → j ≠ P → (w7.setCell ⟨P, 1, none⟩ (.slice (some ⟨g7, 0, none⟩) (k + 1) cap7)).heap[j]? = wr.heap[j]? := fun j q1 q2 q3 =>
    (Below.heap_setCell w7 _ _ j q3).trans ((hg.block j (Nat.lt_of_lt_of_le q1 hbA.size) q2).trans (hbA.block j q1))
  have hPn : some P ≠ nv.ownBlock := fun e => by have := hnv P e.symm; omega
  have hsz : (w7.setCell ⟨P, 1, none⟩ (.slice (some ⟨g7, 0, none⟩) (k + 1) cap7)).heap.size = w7.heap.size := by simp
  have hg7 := (h7.lt g7 rfl).1
  have hgs := hg.size
  have hbs := hbA.size
  refine ⟨k + 1, .slice (some ⟨g7, 0, none⟩) (k + 1) cap7, vs ++ [.slice (some ⟨g6, 0, none⟩) d0.length c6], fun i => if i = k then g6 else q i, hk, by push_cast; rfl, ?_, ?_, ?_, ?_, ?_, ?_, ?_, ?_, ?_⟩
  · refine (World.cell?_setCell_other _ _ _ _ (by simp)).trans ?_
    exact (World.cell?_of_block (w := wA) (a := ⟨P, 0, none⟩) (hg.block P (by omega) hPn)).trans ((hbA.cell (p := ⟨P, 0, none⟩) hplt).trans hp0)
  · exact World.cell?_setCell_same _ _ _ hp1
  · rw [World.frozen?_setCell]; exact hpf
  · exact own_kept h7 (Below.heap_setCell w7 _ _ g7 (by show g7 ≠ P; omega))
  · rw [hsz]; omega
  · intro i d hi hd
    by_cases hik : i = k
    · subst hik
      rw [hd0] at hd
      simp only [Option.some.injEq] at hd
      subst hd
      refine ⟨c6, ?_, ?_⟩
      · rw [List.getElem?_append_right (by omega), hvl]; simp
      · simp only [if_true]
        refine own_kept (own_mono (own_kept h6 (w' := w7) (hg.block g6 (by omega) (fun e => by have := hnv g6 e.symm; omega))) (by omega)) (Below.heap_setCell w7 _ _ g6 (by show g6 ≠ P; omega))
    · obtain ⟨cap, e1, e2⟩ := hrows i d (by omega) hd
      obtain ⟨m1, m2, m3⟩ := hq i (by omega)
      refine ⟨cap, ?_, ?_⟩
      · simp only [if_neg hik]
        rw [List.getElem?_append_left (by omega)]
        exact e1
      · simp only [if_neg hik]
        exact own_kept e2 (hlow _ m2 (fun e => m1 e.symm) (by omega))
  · intro i hi
    rw [hsz]
    by_cases hik : i = k
    · simp only [if_pos hik]
      refine ⟨?_, by omega, by omega⟩
      show some g7 ≠ some g6
      intro e
      simp only [Option.some.injEq] at e
      rcases hat with h | h
      · have := hnv g7 h; omega
      · omega
    · simp only [if_neg hik]
      obtain ⟨m1, m2, m3⟩ := hq i (by omega)
      refine ⟨?_, by omega, by omega⟩
      show some g7 ≠ some (q i)
      intro e
      rcases hat with h | h
      · exact m1 (h.trans e)
      · simp only [Option.some.injEq] at e; omega
  · intro i j hi hj e
    by_cases hik : i = k
    · by_cases hjk : j = k
      · omega
      · simp only [if_pos hik, if_neg hjk] at e
        have := (hq j (by omega)).2.1
        omega
    · by_cases hjk : j = k
      · simp only [if_neg hik, if_pos hjk] at e
        have := (hq i (by omega)).2.1
        omega
      · simp only [if_neg hik, if_neg hjk] at e
        exact hqi i j (by omega) (by omega) e
  · refine Below.setCell ?_ (Nat.le_refl P) _
    exact (hbe.trans (hbA.mono (Nat.le_of_lt hplt))).grown hg (by omega) (fun j e => Nat.le_of_lt (hnv j e).1)

/-- All rows are there. -/
theorem new_done {wr : World} {p lo : Nat} {gv nv : Value} {vs : List Value} {q : Nat → Nat} {Bs : List Reg} {G D : List (List Int)}
    (hlen : D.length = Bs.length) (hlo : lo ≤ p) (hp0 : wr.cell? ⟨p, 0, none⟩ = some gv) (hp1 : wr.cell? ⟨p, 1, none⟩ = some nv) (hown : wr.ownsRow (p + 1) 40 1 nv D.length vs) (hplt : p < wr.heap.size)
    (hrows : ∀ (i : Nat) (d : List Int), i < D.length → D[i]? = some d → ∃ cap, vs[i]? = some (.slice (some ⟨q i, 0, none⟩) d.length cap) ∧
      wr.ownsRow (p + 1) 5 1 (.slice (some ⟨q i, 0, none⟩) d.length cap) d.length (cb d))
    (hq : ∀ i, i < D.length → nv.ownBlock ≠ some (q i) ∧ q i < wr.heap.size ∧ p < q i) (hqi : ∀ i j, i < D.length → j < D.length → q i = q j → i = j)
    (hg : RL wr (fun b => lo ≤ b ∧ b < p) gv Bs G) (hd : ∀ (i : Nat) (d : List Int) (r : Reg), D[i]? = some d → Bs[i]? = some r → okB d ∧ (d.length : Int) = r.ln) :
    MemAt wr p 0 lo wr.heap.size Bs G D q := by
  refine ⟨hlen, Nat.le_refl _, ⟨hlo, hplt, fun i hi => by have := (hq i (by omega)).2.2; omega⟩, fun i j hi hj e => hqi i j (by omega) (by omega) e, ⟨_, hp0, hg.mono fun b hb => ⟨.inr ⟨hb.1, by omega⟩, fun i hi => by have := (hq i (by omega)).2.2; omega⟩⟩, ?_⟩
  have hown' := hown
  obtain ⟨_, ⟨rfl, h0⟩ | ⟨g, cap, cur, rfl, hgb, hgg, _⟩⟩ := hown'
  · have hBe : Bs = [] := List.eq_nil_of_length_eq_zero (by omega)
    refine ⟨none, 0, 0, ?_, fun _ => ⟨rfl, hBe⟩, fun h => absurd hBe h, fun i d r hd hr => ?_⟩
    · rw [hp1, ← hlen, h0]
    · rw [hBe] at hr; simp at hr
  · refine ⟨some ⟨g, 0, none⟩, g, cap, ?_, fun h => (by cases h), fun _ => ⟨rfl, by omega, (Array.getElem?_eq_some_iff.1 hgg).1, fun i hi => ?_⟩, fun i d r hd' hr => ?_⟩
    · rw [hp1, ← hlen]
    · intro e
      exact (hq i (by omega)).1 (by simp [Value.ownBlock, e])
    · have hi : i < D.length := (List.getElem?_eq_some_iff.1 hd').1
      obtain ⟨cp, e1, e2⟩ := hrows i d hi hd'
      obtain ⟨m1, m2⟩ := hd i d r hd' hr
      refine ⟨m1, m2, (hq i hi).2.1, cp, ?_, own_mono e2 (by omega)⟩
      rw [hown.cellAt i (by omega)]
      exact e1

theorem initD_at {Bs : List Reg} {G : List (List Int)} {i : Nat} {d : List Int} (h : (initD Bs G)[i]? = some d) : ∃ r g, Bs[i]? = some r ∧ G[i]? = some g ∧ d = fillS r.ln g := by
  simp only [initD, List.getElem?_zipWith] at h
  cases hr : Bs[i]? with
  | none => rw [hr] at h; simp at h
  | some r =>
    cases hg : G[i]? with
    | none => rw [hr, hg] at h; simp at h
    | some g =>
      rw [hr, hg] at h
      simp only [Option.some.injEq] at h
      exact ⟨r, g, rfl, rfl, h.symm⟩

/-- A memory is there. -/
def NewPost (w : World) (Bs : List Reg) (G D : List (List Int)) (e : Ending) (w' : World) : Prop :=
  ∃ p q, e = .returned (.tuple #[.pointer (some ⟨p, 0, none⟩), .int .i64 0]) ∧ MemAt w' p 0 w.heap.size w'.heap.size Bs G D q ∧ Below w.heap.size w w'

set_option maxHeartbeats 8000000 in
set_option maxRecDepth 100000 in
theorem new_ok (v : Value) (Bs : List Reg) (G : List (List Int)) (S : Nat → Prop) (w : World) (h : RL w S v Bs G) (hS : ∀ b, S b → b < w.heap.size) (hc : checkS (regAt Bs) Bs.length = 0) (hG : ∀ g ∈ G, g.length ≤ 65536) :
    Calls Tryz.prog 6 #[v] w fun e w' => NewPost w Bs G (initD Bs G) e w' := by
  obtain ⟨i0, hi, hz0, hz1, hz2⟩ := info_parts infoRow
  have HRL : Hid (RL w S v Bs G) := h
  have HS : Hid (∀ b, S b → b < w.heap.size) := hS
  have HG : Hid (∀ g ∈ G, g.length ≤ 65536) := hG
  obtain ⟨rs, hbs, hGl, A, c, rfl, hA, hA2, hL, hB⟩ := h
  have hbl : Bs.length = rs.length := by rw [← hbs, List.length_map]
  have hc2 : checkS (regAt rs) rs.length = 0 := by
    rw [← hbs, regAt_bare, List.length_map, checkS_bare] at hc
    exact hc
  have hok := check_ok hc2 (fun i hi => (hL.2 i hi).1)
  have C1 : Hid (Calls Tryz.prog 16 #[.slice A rs.length c] w fun e w' => e = .returned (.int .i64 0) ∧ Below w.heap.size w w') := by
    have := check_c A rs.length c (regAt rs) w hL
    rw [hc2] at this
    exact this
  have C2 : Hid (∀ w1, Below w.heap.size w w1 → Calls Tryz.prog 17 #[.slice A rs.length c] w1 fun e w' => CopPost w1 Bs G e w') :=
    fun w1 hb1 => copyRegions_c _ Bs G S w1 (HRL.out.below hb1) (fun b hb => Nat.lt_of_lt_of_le (hS b hb) hb1.size) (by omega) (fun g hg => by have := hG g hg; omega)
  have hn8 : rs.length ≤ 8 := hok.1
  have HOK : Hid _ := hok.2
  have HL : Hid _ := hL
  have HB : Hid _ := hB
  have HGl : Hid _ := hGl
  have Hbl : Hid _ := hbl
  have Hbs : Hid _ := hbs
  clear hok hL hB hGl hbl hbs hc hc2 hG hS hA hA2
  go_enter Tryz.func6, Tryz.ntmps6
  go_wp2_with fail
  refine Calls.mono C1.out ?_
  rintro e w1 ⟨rfl, hw1⟩
  have HB1 : Hid (Below w.heap.size w w1) := hw1
  clear hw1
  go_wp2_with fail
  refine (C2.out _ HB1.out).mono ?_
  rintro e w2 ⟨A2, c2, rfl, hrl2, hb2⟩
  have HRL2 : Hid _ := hrl2
  have HB2 : Hid _ := hb2
  clear hrl2 hb2
  go_wp2_with fail
  obtain ⟨P, hP⟩ : ∃ P, P = w2.heap.size := ⟨_, rfl⟩
  obtain ⟨W4, hW4⟩ : ∃ W, W = w2.alloc (Obj.cells #[.slice A2 Bs.length c2, .slice none 0 0] 65) := ⟨_, rfl⟩
  have HF : Hid (P = w2.heap.size ∧ W4 = w2.alloc (Obj.cells #[.slice A2 Bs.length c2, .slice none 0 0] 65)) := ⟨hP, hW4⟩
  rw [← hP, ← hW4]
  have ST : Hid (newRel W4 P (.slice A2 Bs.length c2) (initD Bs G) (.int .i64 0) W4) := by
    rw [hP, hW4]
    exact newRel_start _ _ _ _
  have hDl : (initD Bs G).length = rs.length := by
    have h1 := HGl.out
    have h2 := Hbl.out
    simp only [initD, List.length_zipWith]
    omega
  have HDl : Hid _ := hDl
  clear hDl
  have HW : Hid (Below w.heap.size w W4 ∧ w.heap.size ≤ P) := by
    rw [hP, hW4]
    have h12 : Below w.heap.size w w2 := HB1.out.trans (HB2.out.mono HB1.out.size)
    exact ⟨h12.alloc h12.size _, h12.size⟩
  clear hP hW4 C1 C2
  go_loopw [19] (fun i wr => newRel W4 P (.slice A2 Bs.length c2) (initD Bs G) i wr) (fun i _ => rs.length - (intOf i).toNat)
  case atStart => exact ST.out
  case round =>
    obtain ⟨k, nv, vs, q, hk, rfl, hp0, hp1, hpf, hown, hplt, hrows, hq, hqi, hbe⟩ := hrel
    rw [HDl.out] at hk
    by_cases hkn : k < rs.length
    · have hkn' : (k : Int) < rs.length := by omega
      obtain ⟨gk, hgk⟩ : ∃ g, G[k]? = some g := ⟨G[k]'(by rw [HGl.out]; exact hkn), by simp⟩
      have hrk : rs[k]? = some (regAt rs k) := by simp [regAt, List.getD, hkn]
      obtain ⟨hbl, hBLk⟩ := HB.out k _ gk hrk hgk
      obtain ⟨hmb, hle, h4, h6⟩ := HOK.out k hkn
      obtain ⟨hwf, b, o, rfl, h7⟩ := HL.out.2 k hkn
      have hbw : Below w.heap.size w wr := HW.out.1.trans (hbe.mono HW.out.2)
      obtain ⟨d0, d1, d2, d3, d4, d5, d6⟩ := h7.below hbw h7.lt
      -- the call of filled
      have CF : Hid (∀ (wx : World), Below w.heap.size w wx → Calls Tryz.prog 18 #[.agg #[.int .u32 (regAt rs k).fr, .int .u32 (regAt rs k).ln, .bool (regAt rs k).rd, .bool (regAt rs k).wr, .bool (regAt rs k).ex, .bool (regAt rs k).se, .slice (regAt rs k).ba (regAt rs k).bl (regAt rs k).bc]] wx fun e w' => OwnPost wx (fillS (regAt rs k).ln gk) e w') :=
        fun wx hx => filled_c (regAt rs k) gk S wx hwf hbl (hBLk.kept fun b hb hb' => hx.block b hb') hle (fun b hb => Nat.lt_of_lt_of_le (HS.out b hb) hx.size)
      obtain ⟨r0, hr0⟩ : ∃ r0, r0 = regAt rs k := ⟨_, rfl⟩
      rw [← hr0] at d0 d1 d2 d3 d4 d5 d6 CF hle h4 h6
      have HX : Hid _ := And.intro hr0 (And.intro hbl (And.intro hmb (And.intro hBLk (And.intro hrk hgk))))
      have HY : Hid _ := And.intro hrows (And.intro hq (And.intro hqi hbe))
      have HO : Hid _ := hown
      have HBW : Hid _ := hbw
      have hfl : ((fillS r0.ln gk).length : Int) = r0.ln := fillS_length (by omega) (by rw [hr0] at hle ⊢; rw [← hbl]; exact hle)
      have HFL : Hid _ := hfl
      clear hr0 hbl hmb hBLk hwf h7 hrk hgk hrows hq hqi hbe hown hbw hfl
      go_wp2_with fail
      obtain ⟨W5, hW5⟩ : ∃ W, W = wr.alloc (Obj.cells #[.int .u32 r0.fr, .int .u32 r0.ln, .bool r0.rd, .bool r0.wr, .bool r0.ex, .bool r0.se, .slice r0.ba r0.bl r0.bc] 67) := ⟨_, rfl⟩
      obtain ⟨e0, e1, e2, e3, e4, e5, e6⟩ := At7.new wr r0 67
      rw [← hW5] at e0 e1 e2 e3 e4 e5 e6
      simp only [Nat.zero_add] at e1 e2 e3 e4 e5 e6
      have hb5 : Below wr.heap.size wr W5 := by rw [hW5]; exact (Below.refl _ _).alloc (Nat.le_refl _) _
      have hs5 : W5.heap.size = wr.heap.size + 1 := by rw [hW5, alloc_size']
      have f1 : W5.cell? ⟨P, 1, none⟩ = some nv := (hb5.cell hplt).trans hp1
      have HB5 : Hid _ := hb5
      have HCF : Hid (Below w.heap.size w W5.drew) := (HBW.out.trans (hb5.mono HBW.out.size)).drew
      rw [← hW5]
      clear hW5 hb5 hp1
      have HR6 : Hid (∀ w6 o6, Below W5.drew.heap.size W5.drew w6 → (w6.alloc o6).ownsRow (P + 1) 40 1 nv k vs) := fun w6 o6 h6 =>
        (World.ownsRow.kept (row := none) HO.out ⟨h6.os.trans HB5.out.os, h6.tape.trans HB5.out.tape, h6.output.trans HB5.out.output, Nat.le_trans HB5.out.size h6.size, fun j hj _ => (h6.block j (by show j < W5.heap.size; omega)).trans (HB5.out.block j hj)⟩ (by cases hnv : nv.ownBlock <;> simp)).alloc _
      have hPne : P ≠ wr.heap.size := by omega
      have HFZ : Hid (∀ w6 o6, Below W5.drew.heap.size W5.drew w6 → (w6.alloc o6).frozen? ⟨P, 1, none⟩ = false) := fun w6 o6 h6 =>
        (World.frozen?_of_block (w := w6) (a := ⟨P, 1, none⟩) (Below.heap_alloc w6 o6 P (by have : W5.heap.size ≤ w6.heap.size := h6.size; show P < _; omega))).trans ((h6.frozen (p := ⟨P, 1, none⟩) (by show P < W5.heap.size; omega)).trans ((HB5.out.frozen (p := ⟨P, 1, none⟩) hplt).trans hpf))
      have hnP : ∀ g, nv.ownBlock = some g → P < g ∧ g < wr.heap.size := fun g hg => World.ownsRow.lt HO.out g hg
      have HNP : Hid _ := hnP
      clear hnP
      go_region_law
        (first
          | (go_simp; go_at_call 18; refine (CF.out _ HCF.out).mono ?_; rintro e w6 ⟨A6, c6, rfl, hown6, hb6⟩
             have f6 : w6.cell? ⟨P, 1, none⟩ = some nv := (hb6.cell (by show P < W5.heap.size; omega)).trans f1
             have hPn6 : P < w6.heap.size := by have : W5.heap.size ≤ w6.heap.size := hb6.size; omega
             have f6a : ∀ o, (w6.alloc o).cell? ⟨P, 1, none⟩ = some nv := fun o => (World.cell?_of_block (w := w6) (a := ⟨P, 1, none⟩) (Below.heap_alloc w6 o P hPn6)).trans f6)
          | ((refine step_append_lies _ (by rfl) _ _ _ (by rfl) (P + 1) 40 i0 _ 1 24 Tryz.underlying44 hi hz0 hz1 hz2 rfl (by decide) nv k vs (by rfl) (HR6.out _ _ hb6)
                ⟨w6.heap.size, 0, none⟩ 1 1 [.slice A6 (fillS r0.ln gk).length c6] (by rfl) (by rfl) (cell_one_new _ _ _) (by simp [Value.oneCell'])
                (by decide) (by simp only [maxLen]; omega) (by omega) (by have h66 : W5.heap.size ≤ w6.heap.size := hb6.size; rw [alloc_size']; omega) (w6.heap.size + 1) (by rw [alloc_size']) ?_; intro g7 cap7 w7 hown7 hgrow7 hat7 hlt7
              have h66 : W5.heap.size ≤ w6.heap.size := hb6.size
              have hP6 : Hid (P < (w6.alloc (Obj.cells #[.slice A6 (fillS r0.ln gk).length c6] 40)).heap.size) := by show P < _; rw [alloc_size']; omega
              have hw6 : Hid (wr.heap.size < (w6.alloc (Obj.cells #[.slice A6 (fillS r0.ln gk).length c6] 40)).heap.size) := by show wr.heap.size < _; rw [alloc_size']; omega
              have hP7 : Hid (some P ≠ nv.ownBlock) := by intro e; have := HNP.out P e.symm; omega
              have hw7 : Hid (some wr.heap.size ≠ nv.ownBlock) := by intro e; have := HNP.out _ e.symm; omega
              have hf71 : w7.cell? ⟨P, 1, none⟩ = some nv := (hgrow7.cell_far _ hP6.out hP7.out).trans ((World.cell?_of_block (w := w6) (a := ⟨P, 1, none⟩) (Below.heap_alloc w6 _ P (by show P < _; omega))).trans f6)
              have hf7 : w7.frozen? ⟨P, 1, none⟩ = false := (hgrow7.frozen_far _ hP6.out hP7.out).trans (HFZ.out _ _ hb6))))
      all_goals
        have HZ : Hid (newRel W4 P (.slice A2 Bs.length c2) (initD Bs G) (.int .i64 ((k : Int) + 1)) (w7.setCell ⟨P, 1, none⟩ (.slice (some ⟨g7, 0, none⟩) (k + 1) cap7))) := by
          obtain ⟨hr0, _, _, _, hrk, hgk⟩ := HX.out
          obtain ⟨hrows, hq, hqi, hbe⟩ := HY.out
          have hlen0 : 0 < (fillS r0.ln gk).length := by have := HFL.out; omega
          obtain ⟨g6, cap6, hA6, hg6, hg6b⟩ := hown6.form hlen0
          simp only [Value.slice.injEq, true_and] at hA6
          obtain ⟨rfl, rfl⟩ := hA6
          have h56 : Below wr.heap.size wr w6 := (HB5.out.drew).trans (hb6.mono (by show wr.heap.size ≤ W5.heap.size; omega))
          have hBk : Bs[k]? = some r0.bare := by rw [← Hbs.out, List.getElem?_map, hrk, hr0]; rfl
          have hDk : (initD Bs G)[k]? = some (fillS r0.ln gk) := by
            simp only [initD, List.getElem?_zipWith, hBk, hgk]
            rfl
          refine new_next (wr := wr) (wA := w6.alloc (Obj.cells #[.slice (some ⟨g6, 0, none⟩) (fillS r0.ln gk).length c6] 40)) (d0 := fillS r0.ln gk) (q := q) (by rw [HDl.out]; exact hkn) hDk hp0 hf71 hf7 HO.out hplt hrows hq hqi hbe (h56.alloc h56.size _) ?_ (by rw [alloc_size']; omega) hown7 hgrow7 ?_
          · refine World.ownsRow.alloc ?_ _
            exact own_mono hown6 (by show wr.heap.size ≤ W5.heap.size; omega)
          · rw [alloc_size']; exact hat7
        clear hown7 hgrow7 hat7 hlt7 hown6 hb6 hf71 hf7 HX HY HO HB5 HCF HR6 HFZ HNP CF
        go_wp2
        go_roundw
        case rel => exact HZ.out
        case measure =>
          simp only [intOf]
          omega
    · have kn : k = rs.length := by omega
      have kn' : ¬ (k : Int) < rs.length := by omega
      have HE : Hid (NewPost w Bs G (initD Bs G) (.returned (.tuple #[.pointer (some ⟨P, 0, none⟩), .int .i64 0])) wr) := by
        obtain ⟨hP, hW4⟩ := HF.out
        have hbl := Hbl.out
        have hkD : k = (initD Bs G).length := by rw [HDl.out]; exact kn
        rw [hkD] at hown hrows hq hqi
        refine ⟨P, q, rfl, new_done (by rw [HDl.out, hbl]) HW.out.2 hp0 hp1 hown hplt hrows hq hqi ?_ ?_, HW.out.1.trans (hbe.mono HW.out.2)⟩
        · refine (RL.kept (w' := wr) HRL2.out fun b hb hb2 => ?_).mono fun b hb => ⟨Nat.le_trans HB1.out.size hb.1, by omega⟩
          rw [hbe.block b (by omega), hW4]
          exact Below.heap_alloc w2 _ b hb2
        · intro i d r hd hr
          obtain ⟨r', g, hr', hg, rfl⟩ := initD_at hd
          rw [hr] at hr'
          simp only [Option.some.injEq] at hr'
          subst hr'
          have hi : i < rs.length := by
            have := (List.getElem?_eq_some_iff.1 hr).1
            omega
          have hri : rs[i]? = some (regAt rs i) := by simp [regAt, List.getD, hi]
          have hrb : r = (regAt rs i).bare := by
            rw [← Hbs.out, List.getElem?_map, hri] at hr
            simpa using hr.symm
          obtain ⟨p1, p2⟩ := HB.out i _ g hri hg
          obtain ⟨_, m1, m2, _⟩ := HOK.out i hi
          have hln : r.ln = (regAt rs i).ln := by rw [hrb]; rfl
          exact ⟨fillS_ok p2.1, fillS_length (by omega) (by rw [hln, ← p1]; exact m1)⟩
      clear hrows hq hqi hbe hown hpf kn hkn hk
      go_wp2
      go_ret2
      exact HE.out
end Go.Proofs.YtjhmmfpmmgebjaaGreat
