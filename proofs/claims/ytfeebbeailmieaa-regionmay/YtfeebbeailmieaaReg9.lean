/- RegionMay, walked. -/
import Derived.Test.YtfeebbeailmieaaReg7
import Derived.Deep.RegionHeld3
namespace Go.Proofs.Ytfeebbeailmieaa
open Go.ChangeShapes Go.WideShapes Go.ChangeAt Go.RowKit
set_option linter.unusedVariables false
set_option linter.unusedSimpArgs false

theorem seatR_bounds (i : Nat) : 32768 ≤ (seatR i).fr ∧ (seatR i).fr ≤ 1073741824 ∧ 128 ≤ (seatR i).ln ∧ (seatR i).ln ≤ 1024 := by
  match i with
  | 0 => decide
  | 1 => decide
  | 2 => decide
  | n + 3 => exact ⟨by simp [seatR], by simp [seatR], by simp [seatR], by simp [seatR]⟩

theorem wrapB (x : Int) : 0 ≤ IntKind.u32.wrap x ∧ IntKind.u32.wrap x ≤ 4294967295 := by
  rw [IntKind.wrap_u32]; omega
theorem region_quiet {P : Program} {C : World → Prop} {id : Nat} {Q : Exit → Act → World → Prop} {a : Act} {w : World} {l : List Oper} (hm : P.follows .mixedOrders = true) (hB : Region.lexB .any l.toArray = true) (hC : C w.drew)
    (h : wpQuiet P l.toArray C (fun a' => ∀ w', C w' → Q .normal a' w') l a) : (Code.region id l.toArray true).wp P Q a w :=
  wp_region_quiet (C := C) hm hB hC (by simpa using h)
/-- A world that is as W was, below W's blocks. -/
structure Bel (W : World) where
  v : World
  ok : Below W.heap.size W v
theorem bel_any (W : World) : Nonempty (Bel W) := ⟨⟨W, Below.refl _ _⟩⟩
theorem find_hit {R : Nat → Reg} {n i : Nat} {a s : Int} (h : findS R n a s = some i) : i < n ∧ (R i).fr ≤ a ∧ a + widthS s ≤ (R i).fr + (R i).ln := by
  unfold findS at h
  split at h
  · obtain ⟨h1, h2⟩ := firstS_lt R _ _ h
    simp only [hitS, Bool.and_eq_true, decide_eq_true_eq] at h2
    exact ⟨h1, h2⟩
  · cases h
theorem width_own {s : Int} (h : s = 1 ∨ s = 2 ∨ s = 4) : widthS s = s := by
  rcases h with rfl | rfl | rfl <;> decide
theorem seat_ok : checkS seatR 4 = 0 := by decide +kernel
theorem seat_may_none {p sz : Int} (wri : Bool) (hs : sz = 1 ∨ sz = 2 ∨ sz = 4) (hf : findS seatR 4 p sz = none) : mayS seatR 4 p sz wri = if p % sz = 0 then 24 else 25 := by
  simp only [mayS, seat_ok, width_own hs, hf]
  by_cases h : p % sz = 0 <;> simp [h]
theorem seat_may_some {p sz : Int} {i : Nat} (wri : Bool) (hs : sz = 1 ∨ sz = 2 ∨ sz = 4) (hf : findS seatR 4 p sz = some i) : mayS seatR 4 p sz wri = if p % sz = 0 then (if (if wri then (seatR i).wr else (seatR i).rd) then 0 else 24) else 25 := by
  simp only [mayS, seat_ok, width_own hs, hf, regS]
  by_cases h : p % sz = 0 <;> simp [h]

def mayRel (w1 : World) (i : Value) (wr : World) : Prop := ∃ k : Nat, k ≤ 4 ∧ i = .int .i64 k ∧ Below w1.heap.size w1 wr

set_option maxRecDepth 100000 in
set_option maxHeartbeats 8000000 in
theorem rmay_walk (a n : Int) (wri : Bool) (ha0 : 0 ≤ a) (ha1 : a ≤ 4294967295) (hn0 : 0 ≤ n) (hn1 : n ≤ 255) (w : World) :
    Calls Try.prog 6 #[.int .u32 a, .bool wri, .int .u8 n] w fun e w' => e = .returned (.bool true) ∧ Below w.heap.size w w' := by
  have K : Hid _ := fun (w : World) => known_c w
  have S0 : Hid _ := fun (w : World) => seat_c w
  obtain ⟨m, sz, hm, hm2, hsz, hs⟩ : ∃ (m : Nat) (sz : Int), n % 3 = (m : Int) ∧ m ≤ 2 ∧ (#[Value.int IntKind.u32 1, Value.int IntKind.u32 2, Value.int IntKind.u32 4] : Array Value)[m]? = some (.int .u32 sz) ∧ (sz = 1 ∨ sz = 2 ∨ sz = 4) := by
    have h3 : n % 3 = 0 ∨ n % 3 = 1 ∨ n % 3 = 2 := by omega
    rcases h3 with h | h | h
    · exact ⟨0, 1, h, by decide, rfl, Or.inl rfl⟩
    · exact ⟨1, 2, h, by decide, rfl, Or.inr (Or.inl rfl)⟩
    · exact ⟨2, 4, h, by decide, rfl, Or.inr (Or.inr rfl)⟩
  have HS : Hid _ := hs
  clear hs
  go_enter Try.func6, Try.ntmps6
  go_wp2_with fail
  refine (K.out _).mono ?_
  rintro e w0 ⟨rfl, hw0⟩
  have HB0 : Hid _ := hw0
  clear hw0
  go_wp2_with fail
  refine (S0.out _).mono ?_
  rintro e w1 ⟨rfl, hl1, hs1, hb1⟩
  have hL : Hid (Lies w1 (some ⟨w0.heap.size, 0, none⟩) 4 seatR) := hl1
  have HB1 : Hid (Below w.heap.size w w1) := HB0.out.trans (hb1.mono HB0.out.size)
  clear hl1 hs1 hb1 S0 K HB0
  generalize some (⟨w0.heap.size, 0, none⟩ : Addr) = A at *
  go_wp2_with fail
  have HB2 : Hid (Below w1.heap.size w1 (w1.alloc (Obj.cells #[Value.int IntKind.u32 1, Value.int IntKind.u32 2, Value.int IntKind.u32 4] 25))) := (Below.refl _ _).alloc (Nat.le_refl _) _
  generalize w1.alloc (Obj.cells #[Value.int IntKind.u32 1, Value.int IntKind.u32 2, Value.int IntKind.u32 4] 25) = w2 at *
  clear hm hsz hm2
  go_loopw [9] (fun i wr => mayRel w1 i wr) (fun i _ => 4 - (intOf i).toNat)
  case atStart => exact ⟨0, Nat.zero_le _, rfl, HB2.out⟩
  case round =>
    obtain ⟨k, hk, rfl, hb⟩ := hrel
    by_cases hk4 : k < 4
    · obtain ⟨hw, b, o, rfl, h7⟩ := hL.out.2 k hk4
      obtain ⟨c0, c1, c2, c3, c4, c5, c6⟩ := h7.below hb h7.lt
      have hk4' : (k : Int) < 4 := by omega
      obtain ⟨s1, s2, s3, s4⟩ := seatR_bounds k
      have HB : Hid _ := And.intro hb h7
      clear hb h7 hw c2 c3 c4 c5 c6
      generalize (seatR k).fr = fr at *
      generalize (seatR k).ln = ln at *
      have hne : (ln == 0) = false := by simp; omega
      have hz1 : 1 ≤ sz ∧ sz ≤ 4 := by rcases HS.out with h | h | h <;> omega
      obtain ⟨z1, z2⟩ := hz1
      have m0 : 0 ≤ a % ln := Int.emod_nonneg _ (by omega)
      have m1 : a % ln < ln := Int.emod_lt_of_pos _ (by omega)
      have hne2 : ¬ ln = 0 := by omega
      have hne3 : ¬ (0 = ln) := by omega
      have hwp : IntKind.u32.wrap (fr + a % ln) = fr + a % ln := by
        rw [IntKind.wrap_u32]; omega
      go_wp2_with fail
      go_region_held3 (fun w' => w'.cell? ⟨b, o + k * 7, none⟩ = some (.int .u32 fr) ∧ w'.cell? ⟨b, o + k * 7 + 1, none⟩ = some (.int .u32 ln)) (go_keep) (fail)
      generalize h1 : IntKind.u32.wrap (fr + a.tmod ln) = j1 at *
      generalize h2 : IntKind.u32.wrap (IntKind.u32.wrap (fr + ln) - sz) = j2 at *
      generalize h3 : IntKind.u32.wrap (fr - 1) = j3 at *
      generalize h4 : IntKind.u32.wrap (fr + ln) = j4 at *
      have B1 := h1 ▸ wrapB (fr + a.tmod ln)
      have B2 : 0 ≤ j2 ∧ j2 ≤ 4294967295 := h2 ▸ wrapB _
      have B3 := h3 ▸ wrapB (fr - 1)
      have B4 := h4 ▸ wrapB (fr + ln)
      clear h1 h2 h3 h4
      generalize a.tmod ln = j5 at *
      obtain ⟨P, hP, hP2⟩ : ∃ P : Nat → Int, (∀ j, j < 4 → 0 ≤ P j ∧ P j ≤ 4294967295) ∧ #[Value.int IntKind.u32 j1, Value.int IntKind.u32 j2, Value.int IntKind.u32 j3, Value.int IntKind.u32 j4] =
          #[Value.int IntKind.u32 (P 0), Value.int IntKind.u32 (P 1), Value.int IntKind.u32 (P 2), Value.int IntKind.u32 (P 3)] := by
        refine ⟨fun j => match j with | 0 => _ | 1 => _ | 2 => _ | _ => _, fun j hj => ?_, rfl⟩
        have h4 : j = 0 ∨ j = 1 ∨ j = 2 ∨ j = 3 := by omega
        rcases h4 with rfl | rfl | rfl | rfl
        · exact B1
        · exact B2
        · exact B3
        · exact B4
      clear B1 B2 B3 B4
      rw [hP2]
      clear hP2
      have HW : Hid (∀ j, j < 4 → (wr.alloc (Obj.cells #[Value.int IntKind.u32 (P 0), Value.int IntKind.u32 (P 1), Value.int IntKind.u32 (P 2), Value.int IntKind.u32 (P 3)] 25)).drew.cell? ⟨wr.heap.size, j, none⟩ = some (.int .u32 (P j))) := fun j hj => by
        have h4 : j = 0 ∨ j = 1 ∨ j = 2 ∨ j = 3 := by omega
        rcases h4 with rfl | rfl | rfl | rfl <;> (rw [World.cell?_drew, World.cell?_alloc_new]; rfl)
      have HW2 : Hid (wr.heap.size < (wr.alloc (Obj.cells #[Value.int IntKind.u32 (P 0), Value.int IntKind.u32 (P 1), Value.int IntKind.u32 (P 2), Value.int IntKind.u32 (P 3)] 25)).drew.heap.size) := by
        show wr.heap.size < (wr.alloc _).heap.size
        rw [alloc_size']; omega
      have HW3 : Hid (Below w1.heap.size w1 (wr.alloc (Obj.cells #[Value.int IntKind.u32 (P 0), Value.int IntKind.u32 (P 1), Value.int IntKind.u32 (P 2), Value.int IntKind.u32 (P 3)] 25)).drew) := (HB.out.1.alloc HB.out.1.size _).drew
      generalize (wr.alloc (Obj.cells #[Value.int IntKind.u32 (P 0), Value.int IntKind.u32 (P 1), Value.int IntKind.u32 (P 2), Value.int IntKind.u32 (P 3)] 25)).drew = W at *
      generalize wr.heap.size = G at *
      have HP : Hid _ := hP
      rename_i hHeld
      clear hHeld hP c0 c1 hne hne2 hne3 hwp m0 m1 s1 s2 s3 s4 HB
      go_wp2_with fail
      go_loopw [75] (fun i wx => ∃ l : Nat, l ≤ 4 ∧ i = .int .i64 l ∧ Below W.heap.size W wx) (fun i _ => 4 - (intOf i).toNat)
      case atStart => exact ⟨0, Nat.zero_le _, rfl, Below.refl _ _⟩
      case round =>
        obtain ⟨l, hl, rfl, hb⟩ := hrel
        haveI hNE : Nonempty (Bel W) := bel_any W
        have hx : Hid (∀ v, Below W.heap.size W v → Below w1.heap.size w1 v) := fun v h => HW3.out.trans (h.mono HW3.out.size)
        by_cases hl4 : l < 4
        · have hc : wr.cell? ⟨G, l, none⟩ = some (.int .u32 (P l)) := (hb.cell HW2.out).trans (HW.out l hl4)
          have hl4' : (l : Int) < 4 := by omega
          obtain ⟨p0, p1⟩ := HP.out l hl4
          clear HP HW hl
          generalize P l = p at *
          have HBW : Hid _ := hb
          clear hb
          have F : Hid _ := fun (v : World) (h : Below W.heap.size W v) => (find_c _ 4 4 seatR p sz p0 p1 v (hL.out.below (hx.out v h) (Nat.le_refl _))).mono (fun e w' ⟨h1, h2⟩ => (⟨h1, h.trans (h2.mono h.size)⟩ : _ ∧ Below W.heap.size W w'))
          have M : Hid _ := fun (v : World) (h : Below W.heap.size W v) => (may_c _ 4 4 seatR p sz p0 p1 wri v (hL.out.below (hx.out v h) (Nat.le_refl _))).mono (fun e w' ⟨h1, h2⟩ => (⟨h1, h.trans (h2.mono h.size)⟩ : _ ∧ Below W.heap.size W w'))
          have X : Hid _ := fun (x : Bel W) => (secret_c _ 4 4 seatR p sz p0 p1 x.v (hL.out.below (hx.out x.v x.ok) (Nat.le_refl _))).mono (fun e w' ⟨h1, h2⟩ => (⟨h1, ⟨⟨w', x.ok.trans (h2.mono x.ok.size)⟩, rfl⟩⟩ : _ ∧ ∃ y : Bel W, w' = y.v))
          have hX : secretS seatR 4 p sz = ((findS seatR 4 p sz).isSome && (regS seatR (findS seatR 4 p sz)).se) := rfl
          rw [hX] at X
          clear hX
          cases hf : findS seatR 4 p sz with
          | none =>
            rw [hf] at F X
            rw [seat_may_none wri HS.out hf] at M
            simp only [Option.isSome_none, Option.getD_none, Bool.false_and] at F X
            clear hf
            by_cases hal : p % sz = 0
            · have hal' : (p % sz == 0) = true := by simpa using hal
              rw [if_pos hal] at M
              clear hal
              go_wp2_with fail
              refine (F.out _ HBW.out).mono ?_
              rintro e w3 ⟨rfl, h3⟩
              have HB3 : Hid _ := h3
              clear h3 HBW
              go_wp2_with fail
              refine (M.out _ HB3.out).mono ?_
              rintro e w4 ⟨rfl, h4⟩
              have HB4 : Hid _ := h4
              clear h4 HB3
              go_wp2_with fail
              refine region_quiet (C := fun w' => ∃ x : Bel W, w' = x.v) (by kernel_rfl) (by kernel_rfl) ⟨⟨_, HB4.out.drew⟩, rfl⟩ ?_
              repeat (go_big_quiet_step (exact X.out _))
              refine wpQuiet_nil ?_
              rintro w5 ⟨x5, hx5⟩
              have HB5 : Hid (Below W.heap.size W w5) := hx5 ▸ x5.ok
              clear hx5
              go_wp2
              refine ⟨⟨l + 1, by omega, by simp, HB5.out⟩, ?_⟩
              simp only [intOf]
              omega
            · have hal' : (p % sz == 0) = false := by simpa using hal
              rw [if_neg hal] at M
              clear hal
              go_wp2_with fail
              refine (F.out _ HBW.out).mono ?_
              rintro e w3 ⟨rfl, h3⟩
              have HB3 : Hid _ := h3
              clear h3 HBW
              go_wp2_with fail
              refine (M.out _ HB3.out).mono ?_
              rintro e w4 ⟨rfl, h4⟩
              have HB4 : Hid _ := h4
              clear h4 HB3
              go_wp2_with fail
              refine region_quiet (C := fun w' => ∃ x : Bel W, w' = x.v) (by kernel_rfl) (by kernel_rfl) ⟨⟨_, HB4.out.drew⟩, rfl⟩ ?_
              repeat (go_big_quiet_step (exact X.out _))
              refine wpQuiet_nil ?_
              rintro w5 ⟨x5, hx5⟩
              have HB5 : Hid (Below W.heap.size W w5) := hx5 ▸ x5.ok
              clear hx5
              go_wp2
              refine ⟨⟨l + 1, by omega, by simp, HB5.out⟩, ?_⟩
              simp only [intOf]
              omega
          | some i =>
            rw [hf] at F X
            rw [seat_may_some wri HS.out hf] at M
            obtain ⟨hi, g1, g2⟩ := find_hit hf
            rw [width_own HS.out] at g2
            simp only [Option.isSome_some, Option.getD_some, Bool.true_and, regS] at F X
            clear hf
            have hi' : (i : Int) < 4 := by omega
            obtain ⟨s1, s2, s3, s4⟩ := seatR_bounds i
            have h7i : Hid (At7 w1 b (o + i * 7) (seatR i)) := by
              obtain ⟨_, b', o', he, h7⟩ := hL.out.2 i hi
              cases he
              exact h7
            have g1' : ¬ p < (seatR i).fr := by omega
            have g2' : ¬ (seatR i).ln < p - (seatR i).fr + sz := by omega
            have g1d : decide (p < (seatR i).fr) = false := by simp; omega
            have g2d : decide ((seatR i).ln < p - (seatR i).fr + sz) = false := by simp; omega
            have wv1 : IntKind.u32.wrap (p - (seatR i).fr) = p - (seatR i).fr := by rw [IntKind.wrap_u32]; omega
            have wv2 : IntKind.u32.wrap (p - (seatR i).fr + sz) = p - (seatR i).fr + sz := by rw [IntKind.wrap_u32]; omega
            by_cases hal : p % sz = 0
            · have hal' : (p % sz == 0) = true := by simpa using hal
              rw [if_pos hal] at M
              clear hal
              cases wri
              · cases xrd : (seatR i).rd
                · simp only [xrd, Bool.false_eq_true, if_false, reduceIte] at M
                  go_wp2_with fail
                  refine (F.out _ HBW.out).mono ?_
                  rintro e w3 ⟨rfl, h3⟩
                  have HB3 : Hid _ := h3
                  clear h3 HBW
                  go_wp2_with fail
                  refine (M.out _ HB3.out).mono ?_
                  rintro e w4 ⟨rfl, h4⟩
                  have HB4 : Hid _ := h4
                  clear h4 HB3
                  obtain ⟨d0, d1, d2, d3, d4, d5, d6⟩ := h7i.out.below (hx.out _ HB4.out) h7i.out.lt
                  rw [xrd] at d2
                  go_wp2_with fail
                  have l0 : ∀ x : Bel W, x.v.cell? ⟨b, o + i * 7, none⟩ = some (.int .u32 (seatR i).fr) := fun x => (h7i.out.below (hx.out _ x.ok) h7i.out.lt).1
                  have l1 : ∀ x : Bel W, x.v.cell? ⟨b, o + i * 7 + 1, none⟩ = some (.int .u32 (seatR i).ln) := fun x => (h7i.out.below (hx.out _ x.ok) h7i.out.lt).2.1
                  have l5 : ∀ x : Bel W, x.v.cell? ⟨b, o + i * 7 + 5, none⟩ = some (.bool (seatR i).se) := fun x => (h7i.out.below (hx.out _ x.ok) h7i.out.lt).2.2.2.2.2.1
                  refine region_quiet (C := fun w' => ∃ x : Bel W, w' = x.v) (by kernel_rfl) (by kernel_rfl) ⟨⟨_, HB4.out.drew⟩, rfl⟩ ?_
                  repeat (go_big_quiet_step (exact X.out _))
                  refine wpQuiet_nil ?_
                  rintro w5 ⟨x5, hx5⟩
                  have HB5 : Hid (Below W.heap.size W w5) := hx5 ▸ x5.ok
                  clear hx5
                  go_wp2
                  refine ⟨⟨l + 1, by omega, by simp, HB5.out⟩, ?_⟩
                  simp only [intOf]
                  omega
                · simp only [xrd, Bool.false_eq_true, if_false, if_true, reduceIte] at M
                  go_wp2_with fail
                  refine (F.out _ HBW.out).mono ?_
                  rintro e w3 ⟨rfl, h3⟩
                  have HB3 : Hid _ := h3
                  clear h3 HBW
                  go_wp2_with fail
                  refine (M.out _ HB3.out).mono ?_
                  rintro e w4 ⟨rfl, h4⟩
                  have HB4 : Hid _ := h4
                  clear h4 HB3
                  obtain ⟨d0, d1, d2, d3, d4, d5, d6⟩ := h7i.out.below (hx.out _ HB4.out) h7i.out.lt
                  rw [xrd] at d2
                  go_wp2_with fail
                  have l0 : ∀ x : Bel W, x.v.cell? ⟨b, o + i * 7, none⟩ = some (.int .u32 (seatR i).fr) := fun x => (h7i.out.below (hx.out _ x.ok) h7i.out.lt).1
                  have l1 : ∀ x : Bel W, x.v.cell? ⟨b, o + i * 7 + 1, none⟩ = some (.int .u32 (seatR i).ln) := fun x => (h7i.out.below (hx.out _ x.ok) h7i.out.lt).2.1
                  have l5 : ∀ x : Bel W, x.v.cell? ⟨b, o + i * 7 + 5, none⟩ = some (.bool (seatR i).se) := fun x => (h7i.out.below (hx.out _ x.ok) h7i.out.lt).2.2.2.2.2.1
                  refine region_quiet (C := fun w' => ∃ x : Bel W, w' = x.v) (by kernel_rfl) (by kernel_rfl) ⟨⟨_, HB4.out.drew⟩, rfl⟩ ?_
                  repeat (go_big_quiet_step (exact X.out _))
                  refine wpQuiet_nil ?_
                  rintro w5 ⟨x5, hx5⟩
                  have HB5 : Hid (Below W.heap.size W w5) := hx5 ▸ x5.ok
                  clear hx5
                  go_wp2
                  refine ⟨⟨l + 1, by omega, by simp, HB5.out⟩, ?_⟩
                  simp only [intOf]
                  omega
              · cases xwr : (seatR i).wr
                · simp only [xwr, Bool.false_eq_true, if_true, if_false, reduceIte] at M
                  go_wp2_with fail
                  refine (F.out _ HBW.out).mono ?_
                  rintro e w3 ⟨rfl, h3⟩
                  have HB3 : Hid _ := h3
                  clear h3 HBW
                  go_wp2_with fail
                  refine (M.out _ HB3.out).mono ?_
                  rintro e w4 ⟨rfl, h4⟩
                  have HB4 : Hid _ := h4
                  clear h4 HB3
                  obtain ⟨d0, d1, d2, d3, d4, d5, d6⟩ := h7i.out.below (hx.out _ HB4.out) h7i.out.lt
                  rw [xwr] at d3
                  go_wp2_with fail
                  have l0 : ∀ x : Bel W, x.v.cell? ⟨b, o + i * 7, none⟩ = some (.int .u32 (seatR i).fr) := fun x => (h7i.out.below (hx.out _ x.ok) h7i.out.lt).1
                  have l1 : ∀ x : Bel W, x.v.cell? ⟨b, o + i * 7 + 1, none⟩ = some (.int .u32 (seatR i).ln) := fun x => (h7i.out.below (hx.out _ x.ok) h7i.out.lt).2.1
                  have l5 : ∀ x : Bel W, x.v.cell? ⟨b, o + i * 7 + 5, none⟩ = some (.bool (seatR i).se) := fun x => (h7i.out.below (hx.out _ x.ok) h7i.out.lt).2.2.2.2.2.1
                  refine region_quiet (C := fun w' => ∃ x : Bel W, w' = x.v) (by kernel_rfl) (by kernel_rfl) ⟨⟨_, HB4.out.drew⟩, rfl⟩ ?_
                  repeat (go_big_quiet_step (exact X.out _))
                  refine wpQuiet_nil ?_
                  rintro w5 ⟨x5, hx5⟩
                  have HB5 : Hid (Below W.heap.size W w5) := hx5 ▸ x5.ok
                  clear hx5
                  go_wp2
                  refine ⟨⟨l + 1, by omega, by simp, HB5.out⟩, ?_⟩
                  simp only [intOf]
                  omega
                · simp only [xwr, if_true, reduceIte] at M
                  go_wp2_with fail
                  refine (F.out _ HBW.out).mono ?_
                  rintro e w3 ⟨rfl, h3⟩
                  have HB3 : Hid _ := h3
                  clear h3 HBW
                  go_wp2_with fail
                  refine (M.out _ HB3.out).mono ?_
                  rintro e w4 ⟨rfl, h4⟩
                  have HB4 : Hid _ := h4
                  clear h4 HB3
                  obtain ⟨d0, d1, d2, d3, d4, d5, d6⟩ := h7i.out.below (hx.out _ HB4.out) h7i.out.lt
                  rw [xwr] at d3
                  go_wp2_with fail
                  have l0 : ∀ x : Bel W, x.v.cell? ⟨b, o + i * 7, none⟩ = some (.int .u32 (seatR i).fr) := fun x => (h7i.out.below (hx.out _ x.ok) h7i.out.lt).1
                  have l1 : ∀ x : Bel W, x.v.cell? ⟨b, o + i * 7 + 1, none⟩ = some (.int .u32 (seatR i).ln) := fun x => (h7i.out.below (hx.out _ x.ok) h7i.out.lt).2.1
                  have l5 : ∀ x : Bel W, x.v.cell? ⟨b, o + i * 7 + 5, none⟩ = some (.bool (seatR i).se) := fun x => (h7i.out.below (hx.out _ x.ok) h7i.out.lt).2.2.2.2.2.1
                  refine region_quiet (C := fun w' => ∃ x : Bel W, w' = x.v) (by kernel_rfl) (by kernel_rfl) ⟨⟨_, HB4.out.drew⟩, rfl⟩ ?_
                  repeat (go_big_quiet_step (exact X.out _))
                  refine wpQuiet_nil ?_
                  rintro w5 ⟨x5, hx5⟩
                  have HB5 : Hid (Below W.heap.size W w5) := hx5 ▸ x5.ok
                  clear hx5
                  go_wp2
                  refine ⟨⟨l + 1, by omega, by simp, HB5.out⟩, ?_⟩
                  simp only [intOf]
                  omega
            · have hal' : (p % sz == 0) = false := by simpa using hal
              rw [if_neg hal] at M
              clear hal
              go_wp2_with fail
              refine (F.out _ HBW.out).mono ?_
              rintro e w3 ⟨rfl, h3⟩
              have HB3 : Hid _ := h3
              clear h3 HBW
              go_wp2_with fail
              refine (M.out _ HB3.out).mono ?_
              rintro e w4 ⟨rfl, h4⟩
              have HB4 : Hid _ := h4
              clear h4 HB3
              obtain ⟨d0, d1, d2, d3, d4, d5, d6⟩ := h7i.out.below (hx.out _ HB4.out) h7i.out.lt
              go_wp2_with fail
              have l0 : ∀ x : Bel W, x.v.cell? ⟨b, o + i * 7, none⟩ = some (.int .u32 (seatR i).fr) := fun x => (h7i.out.below (hx.out _ x.ok) h7i.out.lt).1
              have l1 : ∀ x : Bel W, x.v.cell? ⟨b, o + i * 7 + 1, none⟩ = some (.int .u32 (seatR i).ln) := fun x => (h7i.out.below (hx.out _ x.ok) h7i.out.lt).2.1
              have l5 : ∀ x : Bel W, x.v.cell? ⟨b, o + i * 7 + 5, none⟩ = some (.bool (seatR i).se) := fun x => (h7i.out.below (hx.out _ x.ok) h7i.out.lt).2.2.2.2.2.1
              refine region_quiet (C := fun w' => ∃ x : Bel W, w' = x.v) (by kernel_rfl) (by kernel_rfl) ⟨⟨_, HB4.out.drew⟩, rfl⟩ ?_
              repeat (go_big_quiet_step (exact X.out _))
              refine wpQuiet_nil ?_
              rintro w5 ⟨x5, hx5⟩
              have HB5 : Hid (Below W.heap.size W w5) := hx5 ▸ x5.ok
              clear hx5
              go_wp2
              refine ⟨⟨l + 1, by omega, by simp, HB5.out⟩, ?_⟩
              simp only [intOf]
              omega
        · have l4 : l = 4 := by omega
          subst l4
          have HBE : Hid _ := hx.out _ hb
          clear hb hl hl4 HP HW
          go_wp2
          refine ⟨⟨k + 1, by omega, by simp, HBE.out⟩, ?_⟩
          simp only [intOf]
          omega
    · have k4 : k = 4 := by omega
      subst k4
      have HBE : Hid _ := HB1.out.trans (hb.mono HB1.out.size)
      clear hb hk hk4
      go_wp2
      go_ret
      exact ⟨rfl, HBE.out⟩
end Go.Proofs.Ytfeebbeailmieaa
