/- Stage 9: WideNumbers. -/
import Derived.Test.YtigmekboikgoaaaWf5
import Derived.Test.YtigmekboikgoaaaRefs4w
namespace Go.Proofs.Ytigmekboikgoaaa
open Go.ChangeShapes Go.WideShapes Go.ChangeAt Go.RowKit
set_option linter.unusedVariables false
set_option linter.unusedSimpArgs false

theorem movJ_a {s s' : Bool} {r r' v v' a a' : Nat} (h : movJ s r v a = movJ s' r' v' a') : a = a' ∧ v = v' := by
  have h1 := congrArg IV.a h
  have h2 := congrArg IV.imm h
  exact ⟨Int.ofNat.inj h1, Int.ofNat.inj h2⟩
theorem encP_yes (r v : Nat) (hr : r < 13) (hv : v < 65536) (w : World) : Calls Try.prog 10 #[(Value.agg #[.int .i64 13, .bool true, .bool false, .int .i64 14, .int .i64 (r : Nat), .int .i64 0, .int .i64 0, .int .i64 2, .int .u32 (v : Nat), .bool true, .int .i64 0, .int .i64 0, .int .i64 0, .bool false, .bool false])] w fun e w' => e = .returned (.tuple #[.int .u16 ((wordP r v / 65536 : Nat) : Int), .int .u16 ((wordP r v % 65536 : Nat) : Int), .bool true]) ∧ Below w.heap.size w w' :=
  encY_c (movJ false r v 2) (wordP r v) (wordP_is r v (by omega)).1 (movJ false r (v % 65536) 2) (wordMv_c false r v 2 _ (dataWP_c r v (by omega) (by omega))) (aloneP_c r v hr) rfl (by rw [Nat.mod_eq_of_lt hv, ivEq_self]; rfl) w
theorem encP_no (r v : Nat) (hr : r < 13) (hv : 65536 ≤ v) (hv1 : v < 4294967296) (w : World) : Calls Try.prog 10 #[(Value.agg #[.int .i64 13, .bool true, .bool false, .int .i64 14, .int .i64 (r : Nat), .int .i64 0, .int .i64 0, .int .i64 2, .int .u32 (v : Nat), .bool true, .int .i64 0, .int .i64 0, .int .i64 0, .bool false, .bool false])] w fun e w' => e = .returned (.tuple #[.int .u16 0, .int .u16 0, .bool false]) ∧ Below w.heap.size w w' :=
  encN_c (movJ false r v 2) (wordP r v) (wordP_is r v (by omega)).1 (movJ false r (v % 65536) 2) (wordMv_c false r v 2 _ (dataWP_c r v (by omega) hv1)) (aloneP_c r v hr) rfl (by rw [ivEq_ne (fun h => by have := (movJ_a h).2; omega)]; rfl) w
theorem decP (r v : Nat) (hr : r < 13) (hv : v < 65536) (w : World) : Calls Try.prog 8 #[.int .u16 ((wordP r v / 65536 : Nat) : Int), .int .u16 ((wordP r v % 65536 : Nat) : Int), .bool false] w fun e w' => e = .returned (Value.agg #[.int .i64 13, .bool true, .bool false, .int .i64 14, .int .i64 (r : Nat), .int .i64 0, .int .i64 0, .int .i64 2, .int .u32 (v : Nat), .bool true, .int .i64 0, .int .i64 0, .int .i64 0, .bool false, .bool false]) ∧ Below w.heap.size w w' := by
  have h0 := (wordP_is r v (by omega)).1
  have h := decF_c (wordP r v / 65536) (wordP r v % 65536) (by omega) (by omega) (movJ false r (v % 65536) 2) (wordP r v) (by omega) (aloneP_c r v hr) w
  rw [Nat.mod_eq_of_lt hv] at h
  exact h
theorem encM_yes (s : Bool) (r v c n : Nat) (ok : Bool) (hr : r < 13) (hv : v < 4294967296) (hc : c < 2) (hn : n < 4096) (hk : compressS (v : Nat) = ((n : Int), ok)) (y : Nat) (he : (expandS (n : Nat) false).1 = (y : Nat)) (he' : (expandS (n : Nat) false).2.2 = true) (heq : movJ s r y (bif Nat.beq (n / 1024) 0 then 0 else 1) = movJ s r v c) (w : World) : Calls Try.prog 10 #[(movJ s r v c).val] w fun e w' => e = .returned (.tuple #[.int .u16 ((wordM s r n / 65536 : Nat) : Int), .int .u16 ((wordM s r n % 65536 : Nat) : Int), .bool true]) ∧ Below w.heap.size w w' :=
  encY_c (movJ s r v c) (wordM s r n) (wordM_is s r n (by omega) hn).1 _ (wordMv_c s r v c _ (dataWM_c s r v c n ok (by omega) hv hc hn hk)) (aloneM_c s r n hr hn y he he') rfl (by rw [heq, ivEq_self]; rfl) w
theorem encM_no (s : Bool) (r v c n : Nat) (ok : Bool) (hr : r < 13) (hv : v < 4294967296) (hc : c < 2) (hn : n < 4096) (hk : compressS (v : Nat) = ((n : Int), ok)) (y : Nat) (he : (expandS (n : Nat) false).1 = (y : Nat)) (he' : (expandS (n : Nat) false).2.2 = true) (hne : movJ s r y (bif Nat.beq (n / 1024) 0 then 0 else 1) ≠ movJ s r v c) (w : World) : Calls Try.prog 10 #[(movJ s r v c).val] w fun e w' => e = .returned (.tuple #[.int .u16 0, .int .u16 0, .bool false]) ∧ Below w.heap.size w w' :=
  encN_c (movJ s r v c) (wordM s r n) (wordM_is s r n (by omega) hn).1 _ (wordMv_c s r v c _ (dataWM_c s r v c n ok (by omega) hv hc hn hk)) (aloneM_c s r n hr hn y he he') rfl (by rw [ivEq_ne hne]; rfl) w
theorem decM (s : Bool) (r n : Nat) (hr : r < 13) (hn : n < 4096) (y : Nat) (he : (expandS (n : Nat) false).1 = (y : Nat)) (he' : (expandS (n : Nat) false).2.2 = true) (w : World) : Calls Try.prog 8 #[.int .u16 ((wordM s r n / 65536 : Nat) : Int), .int .u16 ((wordM s r n % 65536 : Nat) : Int), .bool false] w fun e w' => e = .returned (movJ s r y (bif Nat.beq (n / 1024) 0 then 0 else 1)).val ∧ Below w.heap.size w w' := by
  have h0 := (wordM_is s r n (by omega) hn).1
  exact decF_c (wordM s r n / 65536) (wordM s r n % 65536) (by omega) (by omega) _ (wordM s r n) (by omega) (aloneM_c s r n hr hn y he he') w
theorem compress_zero (v : Int) (h : (compressS v).2 = false) : (compressS v).1 = 0 := by
  unfold compressS turnedS at h ⊢
  repeat' split at h
  all_goals first | (simp at h; done) | (simp_all)
theorem beq0 (n : Nat) (h : n < 1024) : Nat.beq (n / 1024) 0 = true := by rw [nbeq]; simp; omega
theorem beq1 (n : Nat) (h : 1024 ≤ n) : Nat.beq (n / 1024) 0 = false := by rw [nbeq]; simp; omega
theorem numbers_i (v : Int) (v0 : 0 ≤ v) (v1 : v ≤ 4294967295) (d : Int) (d0 : 0 ≤ d) (d1 : d ≤ 255) (s : Bool) (w : World) : Calls Try.prog 5 #[.int .u32 v, .int .u8 d, .bool s] w fun e w' => e = .returned (.bool true) ∧ Below w.heap.size w w' := by
  obtain ⟨v, rfl⟩ : ∃ v0 : Nat, v = v0 := ⟨v.toNat, by omega⟩
  obtain ⟨d, rfl⟩ : ∃ d0 : Nat, d = d0 := ⟨d.toNat, by omega⟩
  have hv : v < 4294967296 := by omega
  have hd : d < 256 := by omega
  obtain ⟨r, hr, dr1⟩ : ∃ r : Nat, r < 13 ∧ (d : Int) % 13 = (r : Int) := ⟨d % 13, Nat.mod_lt _ (by decide), by omega⟩
  have dr2 : (d : Int).tmod 13 = (r : Int) := by rw [Int.tmod_eq_emod_of_nonneg (by omega)]; exact dr1
  have CC : ∀ w, Calls Try.prog 11 #[.int .u32 v] w fun e w' => e = .returned (.tuple #[.int .u32 (compressS v).1, .bool (compressS v).2]) ∧ Below w.heap.size w w' := fun w => (rCompress_c v (by omega) (by omega) w).mono fun e w' h => ⟨h.1, h.2.2⟩
  cases hk : (compressS (v : Int)).2
  · have h1 := compress_zero v hk
    have hk' : compressS (v : Nat) = (((0 : Nat) : Int), false) := Prod.ext h1 hk
    have hv0 : v ≠ 0 := by
      rintro rfl
      rw [show (compressS ((0 : Nat) : Int)).2 = true by decide +kernel] at hk
      cases hk
    rw [hk'] at CC
    have he : (expandS ((0 : Nat) : Int) false).1 = ((0 : Nat) : Int) := by decide +kernel
    have he' : (expandS ((0 : Nat) : Int) false).2.2 = true := by decide +kernel
    have E2 := encM_no s r v 0 0 false hr hv (by decide) (by decide) hk' 0 he he' (fun h => hv0 (movJ_a h).2.symm)
    have E3 := encM_no s r v 1 0 false hr hv (by decide) (by decide) hk' 0 he he' (fun h => hv0 (movJ_a h).2.symm)
    rcases Nat.lt_or_ge v 65536 with hA | hA
    · exact num_1n v d r 0 s _ _ 0 0 hv hd hr dr1 dr2 hA (by decide) (encP_yes r v hr hA) (decP r v hr hA) CC E2 E3 w
    · exact num_0n v d r 0 s 0 0 0 0 hv hd hr dr1 dr2 hA (by decide) (encP_no r v hr hA hv) CC E2 E3 w
  · obtain ⟨b1, b2, b3, b4⟩ := compress_back (v : Int) false (by omega) (by omega) hk
    obtain ⟨n, hn⟩ : ∃ n : Nat, (compressS (v : Int)).1 = n := ⟨((compressS (v : Int)).1).toNat, by omega⟩
    rw [hn] at b1 b2 b3 b4
    have hk' : compressS (v : Nat) = ((n : Int), true) := Prod.ext hn hk
    rw [hk'] at CC
    have hn4 : n < 4096 := by omega
    rcases Nat.lt_or_ge n 1024 with hB | hB
    · have hj : ∀ y : Nat, movJ s r y (bif Nat.beq (n / 1024) 0 then 0 else 1) = movJ s r y 0 := fun y => by rw [beq0 n hB]; rfl
      have E2 := encM_yes s r v 0 n true hr hv (by decide) hn4 hk' v b3 b4 (hj v)
      have E3 := encM_no s r v 1 n true hr hv (by decide) hn4 hk' v b3 b4 (by rw [hj]; exact fun h => absurd (movJ_a h).1 (by decide))
      have D2 := decM s r n hr hn4 v b3 b4
      rw [hj] at D2
      rcases Nat.lt_or_ge v 65536 with hA | hA
      · exact num_10 v d r n s _ _ _ _ hv hd hr dr1 dr2 hA hB (encP_yes r v hr hA) (decP r v hr hA) CC E2 E3 D2 w
      · exact num_00 v d r n s 0 0 _ _ hv hd hr dr1 dr2 hA hB (encP_no r v hr hA hv) CC E2 E3 D2 w
    · have hj : ∀ y : Nat, movJ s r y (bif Nat.beq (n / 1024) 0 then 0 else 1) = movJ s r y 1 := fun y => by rw [beq1 n hB]; rfl
      have E2 := encM_yes s r v 1 n true hr hv (by decide) hn4 hk' v b3 b4 (hj v)
      have E3 := encM_no s r v 0 n true hr hv (by decide) hn4 hk' v b3 b4 (by rw [hj]; exact fun h => absurd (movJ_a h).1 (by decide))
      have D2 := decM s r n hr hn4 v b3 b4
      rw [hj] at D2
      rcases Nat.lt_or_ge v 65536 with hA | hA
      · exact num_11 v d r n s _ _ _ _ hv hd hr dr1 dr2 hA hB (encP_yes r v hr hA) (decP r v hr hA) CC E2 E3 D2 w
      · exact num_01 v d r n s 0 0 _ _ hv hd hr dr1 dr2 hA hB (encP_no r v hr hA hv) CC E2 E3 D2 w
end Go.Proofs.Ytigmekboikgoaaa
