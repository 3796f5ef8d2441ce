/- Stage 9: alone at the words of Movs. -/
import Derived.Test.YtigmekboikgoaaaWf3
import Derived.Test.YtigmekboikgoaaaWe4
namespace Go.Proofs.Ytigmekboikgoaaa
open Go.ChangeShapes Go.WideShapes Go.ChangeAt Go.RowKit
set_option linter.unusedVariables false
set_option linter.unusedSimpArgs false

set_option maxHeartbeats 20000000 in
set_option maxRecDepth 100000 in
theorem alone121_c (x : Nat) (hx : x < 4294967296) (h27 : fd x 27 5 = 30) (h15 : fd x 15 1 = 0) (h25 : fd x 25 7 = 121) (w : World) : Calls Try.prog 12 #[.int .u32 x] w fun e w' => Says w (plaX x) e w' := by
  unfold Says
  have hj := jump_bits x hx
  rw [h27, h15] at hj
  have hk : bits .and .u32 (x : Int) 4160782336 = 4026531840 := hj
  have hg : bits .and .u32 (x : Int) 4261412864 = 4060086272 := by
    have := u32_mid x 25 7 4261412864 hx rfl (by decide)
    rw [h25] at this
    exact this
  have CB : Hid (∀ w, Calls Try.prog 23 #[.int .u32 x] w fun e w' => e = .returned ((plaX x).val) ∧ Below w.heap.size w w') := plain9_c x hx
  clear hj h27 h15 h25
  generalize plaX x = J at *
  go_enter Try.func12, Try.ntmps12
  have S := SH.start w
  go_wp2_with (first
    | ((with_reducible refine wpl_isDst 2 ?_); (first | refine S.alloc rfl 30 rfl (Cel.any zeroL) zeroA ?_ | refine SH.alloc (L := []) S rfl 30 rfl (Cel.any zeroL) zeroA ?_); clear S; intro b2 w2 S)
    | ((with_reducible refine wpl_isStoreAt 2 ?_); refine S.storeA rfl 30 _ _ rfl b2 _ rfl rfl 0 _ rfl rfl rfl (szA _ rfl) ?_; clear S; intro w2 S; (simp only [Cel.cells, IV.cellsL, zeroL, List.set_cons_zero, List.set_cons_succ, startI, secondI, noneI] at S))
    | (go_at_call 23; refine (CB.out _).mono ?_; rintro e wf ⟨rfl, hbf⟩; replace S := S.below hbf; clear hbf))
  (try simp only [Exit.inBlock, Exit.then])
  refine bodyPost_ret (S.results rfl _ _ rfl 0 _ rfl _ Try.underlying30 rfl (szA _ rfl)) rfl ?_
  exact ⟨rfl, S.low⟩
set_option maxHeartbeats 20000000 in
set_option maxRecDepth 100000 in
theorem alone123_c (x : Nat) (hx : x < 4294967296) (h27 : fd x 27 5 = 30) (h15 : fd x 15 1 = 0) (h25 : fd x 25 7 = 123) (w : World) : Calls Try.prog 12 #[.int .u32 x] w fun e w' => Says w (plaX x) e w' := by
  unfold Says
  have hj := jump_bits x hx
  rw [h27, h15] at hj
  have hk : bits .and .u32 (x : Int) 4160782336 = 4026531840 := hj
  have hg : bits .and .u32 (x : Int) 4261412864 = 4127195136 := by
    have := u32_mid x 25 7 4261412864 hx rfl (by decide)
    rw [h25] at this
    exact this
  have CB : Hid (∀ w, Calls Try.prog 23 #[.int .u32 x] w fun e w' => e = .returned ((plaX x).val) ∧ Below w.heap.size w w') := plain9_c x hx
  clear hj h27 h15 h25
  generalize plaX x = J at *
  go_enter Try.func12, Try.ntmps12
  have S := SH.start w
  go_wp2_with (first
    | ((with_reducible refine wpl_isDst 2 ?_); (first | refine S.alloc rfl 30 rfl (Cel.any zeroL) zeroA ?_ | refine SH.alloc (L := []) S rfl 30 rfl (Cel.any zeroL) zeroA ?_); clear S; intro b2 w2 S)
    | ((with_reducible refine wpl_isStoreAt 2 ?_); refine S.storeA rfl 30 _ _ rfl b2 _ rfl rfl 0 _ rfl rfl rfl (szA _ rfl) ?_; clear S; intro w2 S; (simp only [Cel.cells, IV.cellsL, zeroL, List.set_cons_zero, List.set_cons_succ, startI, secondI, noneI] at S))
    | (go_at_call 23; refine (CB.out _).mono ?_; rintro e wf ⟨rfl, hbf⟩; replace S := S.below hbf; clear hbf))
  (try simp only [Exit.inBlock, Exit.then])
  refine bodyPost_ret (S.results rfl _ _ rfl 0 _ rfl _ Try.underlying30 rfl (szA _ rfl)) rfl ?_
  exact ⟨rfl, S.low⟩
set_option maxHeartbeats 20000000 in
set_option maxRecDepth 100000 in
theorem alone120_c (x : Nat) (hx : x < 4294967296) (h27 : fd x 27 5 = 30) (h15 : fd x 15 1 = 0) (h25 : fd x 25 7 = 120) (w : World) : Calls Try.prog 12 #[.int .u32 x] w fun e w' => Says w (modX x) e w' := by
  unfold Says
  have hj := jump_bits x hx
  rw [h27, h15] at hj
  have hk : bits .and .u32 (x : Int) 4160782336 = 4026531840 := hj
  have hg : bits .and .u32 (x : Int) 4261412864 = 4026531840 := by
    have := u32_mid x 25 7 4261412864 hx rfl (by decide)
    rw [h25] at this
    exact this
  have CB : Hid (∀ w, Calls Try.prog 22 #[.int .u32 x] w fun e w' => e = .returned ((modX x).val) ∧ Below w.heap.size w w') := modified_c x hx
  clear hj h27 h15 h25
  generalize modX x = J at *
  go_enter Try.func12, Try.ntmps12
  have S := SH.start w
  go_wp2_with (first
    | ((with_reducible refine wpl_isDst 2 ?_); (first | refine S.alloc rfl 30 rfl (Cel.any zeroL) zeroA ?_ | refine SH.alloc (L := []) S rfl 30 rfl (Cel.any zeroL) zeroA ?_); clear S; intro b2 w2 S)
    | ((with_reducible refine wpl_isStoreAt 2 ?_); refine S.storeA rfl 30 _ _ rfl b2 _ rfl rfl 0 _ rfl rfl rfl (szA _ rfl) ?_; clear S; intro w2 S; (simp only [Cel.cells, IV.cellsL, zeroL, List.set_cons_zero, List.set_cons_succ, startI, secondI, noneI] at S))
    | (go_at_call 22; refine (CB.out _).mono ?_; rintro e wf ⟨rfl, hbf⟩; replace S := S.below hbf; clear hbf))
  (try simp only [Exit.inBlock, Exit.then])
  refine bodyPost_ret (S.results rfl _ _ rfl 0 _ rfl _ Try.underlying30 rfl (szA _ rfl)) rfl ?_
  exact ⟨rfl, S.low⟩
set_option maxHeartbeats 20000000 in
set_option maxRecDepth 100000 in
theorem alone122_c (x : Nat) (hx : x < 4294967296) (h27 : fd x 27 5 = 30) (h15 : fd x 15 1 = 0) (h25 : fd x 25 7 = 122) (w : World) : Calls Try.prog 12 #[.int .u32 x] w fun e w' => Says w (modX x) e w' := by
  unfold Says
  have hj := jump_bits x hx
  rw [h27, h15] at hj
  have hk : bits .and .u32 (x : Int) 4160782336 = 4026531840 := hj
  have hg : bits .and .u32 (x : Int) 4261412864 = 4093640704 := by
    have := u32_mid x 25 7 4261412864 hx rfl (by decide)
    rw [h25] at this
    exact this
  have CB : Hid (∀ w, Calls Try.prog 22 #[.int .u32 x] w fun e w' => e = .returned ((modX x).val) ∧ Below w.heap.size w w') := modified_c x hx
  clear hj h27 h15 h25
  generalize modX x = J at *
  go_enter Try.func12, Try.ntmps12
  have S := SH.start w
  go_wp2_with (first
    | ((with_reducible refine wpl_isDst 2 ?_); (first | refine S.alloc rfl 30 rfl (Cel.any zeroL) zeroA ?_ | refine SH.alloc (L := []) S rfl 30 rfl (Cel.any zeroL) zeroA ?_); clear S; intro b2 w2 S)
    | ((with_reducible refine wpl_isStoreAt 2 ?_); refine S.storeA rfl 30 _ _ rfl b2 _ rfl rfl 0 _ rfl rfl rfl (szA _ rfl) ?_; clear S; intro w2 S; (simp only [Cel.cells, IV.cellsL, zeroL, List.set_cons_zero, List.set_cons_succ, startI, secondI, noneI] at S))
    | (go_at_call 22; refine (CB.out _).mono ?_; rintro e wf ⟨rfl, hbf⟩; replace S := S.below hbf; clear hbf))
  (try simp only [Exit.inBlock, Exit.then])
  refine bodyPost_ret (S.results rfl _ _ rfl 0 _ rfl _ Try.underlying30 rfl (szA _ rfl)) rfl ?_
  exact ⟨rfl, S.low⟩
theorem wordP_is (r v : Nat) (hr : r < 16) : wordP r v < 4294967296 ∧ fd (wordP r v) 27 5 = 30 ∧ fd (wordP r v) 15 1 = 0 ∧ (fd (wordP r v) 25 7 = 121 ∨ fd (wordP r v) 25 7 = 123) ∧ fd (wordP r v) 20 5 = 4 ∧ fd (wordP r v) 8 4 = r ∧ fd (wordP r v) 16 4 = v / 4096 % 16 ∧ numX (wordP r v) = v % 4096 := by
  have a1 := Nat.mod_lt (v / 2048) (show 0 < 2 by decide)
  have a2 := Nat.mod_lt (v / 256) (show 0 < 8 by decide)
  have a3 := Nat.mod_lt v (show 0 < 256 by decide)
  have a4 := Nat.mod_lt (v / 4096) (show 0 < 16 by decide)
  have e : v % 4096 = v / 2048 % 2 * 2048 + v / 256 % 8 * 256 + v % 256 := by omega
  rw [e]
  unfold wordP numX numB
  generalize v / 2048 % 2 = b at *
  generalize v / 256 % 8 = m at *
  generalize v % 256 = l at *
  generalize v / 4096 % 16 = n at *
  clear e
  refine ⟨by omega, ?_, ?_, ?_, ?_, ?_, ?_, ?_⟩ <;> unfold fd <;> omega
theorem wordM_is (s : Bool) (r v : Nat) (hr : r < 16) (hv : v < 4096) : wordM s r v < 4294967296 ∧ fd (wordM s r v) 27 5 = 30 ∧ fd (wordM s r v) 15 1 = 0 ∧ (fd (wordM s r v) 25 7 = 120 ∨ fd (wordM s r v) 25 7 = 122) ∧ fd (wordM s r v) 21 4 = 2 ∧ fd (wordM s r v) 8 4 = r ∧ fd (wordM s r v) 16 4 = 15 ∧ fd (wordM s r v) 20 1 * 1048576 = sB s ∧ numX (wordM s r v) = v := by
  have a1 := Nat.mod_lt (v / 2048) (show 0 < 2 by decide)
  have a2 := Nat.mod_lt (v / 256) (show 0 < 8 by decide)
  have a3 := Nat.mod_lt v (show 0 < 256 by decide)
  have e : v = v / 2048 % 2 * 2048 + v / 256 % 8 * 256 + v % 256 := by omega
  have hs := sB_le s
  have key : ∀ b m l S : Nat, b < 2 → m < 8 → l < 256 → (S = 0 ∨ S = 1048576) → ∀ X, X = 4026531840 + (4194304 + S) + (15 * 65536 + r * 256) + (b * 67108864 + m * 4096 + l) → X < 4294967296 ∧ fd X 27 5 = 30 ∧ fd X 15 1 = 0 ∧ (fd X 25 7 = 120 ∨ fd X 25 7 = 122) ∧ fd X 21 4 = 2 ∧ fd X 8 4 = r ∧ fd X 16 4 = 15 ∧ fd X 20 1 * 1048576 = S ∧ numX X = b * 2048 + m * 256 + l := by
    intro b m l S hb hm hl hS X hX
    unfold numX
    refine ⟨by omega, ?_, ?_, ?_, ?_, ?_, ?_, ?_, ?_⟩ <;> unfold fd <;> omega
  have := key _ _ _ _ a1 a2 a3 hs (wordM s r v) rfl
  rw [← e] at this
  exact this
theorem checked_mov (s : Bool) (r : Nat) (hr : r < 13) (v : Int) (a : Int) (ha : a = 0 ∨ a = 1 ∨ a = 2) (x : Nat) : checkedI ⟨13, true, s, 14, (r : Nat), 0, 0, a, v, true, 0, 0, 0, false, false⟩ true x = ⟨13, true, s, 14, (r : Nat), 0, 0, a, v, true, 0, 0, 0, false, false⟩ := by
  have h1 : ((r : Int) == 13) = false := by simp; omega
  have h2 : ((r : Int) == 15) = false := by simp; omega
  have h3 : resS a = false := by rcases ha with rfl | rfl | rfl <;> rfl
  unfold checkedI mayD mayN
  simp only [h3]
  simp [resS, h1, h2]
theorem plaX_P (r v : Nat) (hr : r < 13) : plaX (wordP r v) = movJ false r (v % 65536) 2 := by
  obtain ⟨h0, h1, h2, h3, h4, h5, h6, h7⟩ := wordP_is r v (by omega)
  unfold plaX
  rw [h4, h5, h6, h7]
  refine (checked_mov false r hr ((v / 4096 % 16 * 4096 + v % 4096 : Nat) : Int) 2 (.inr (.inr rfl)) _).trans ?_
  rw [show v / 4096 % 16 * 4096 + v % 4096 = v % 65536 by omega]
  rfl
theorem dataX_M (s : Bool) (r v : Nat) (hr : r < 13) (hv : v < 4096) : dataX (wordM s r v) = ⟨13, true, s, 14, (r : Nat), 0, 0, 0, 0, false, 0, 0, 0, false, false⟩ := by
  obtain ⟨h0, h1, h2, h3, h4, h5, h6, h7, h8⟩ := wordM_is s r v (by omega) hv
  have h9 : (fd (wordM s r v) 20 1 != 0) = s := by
    have : sB s = if s then 1048576 else 0 := by cases s <;> rfl
    rw [this] at h7
    cases s
    · have : fd (wordM false r v) 20 1 = 0 := by simp at h7; omega
      rw [this]; rfl
    · have : fd (wordM true r v) 20 1 = 1 := by simp at h7; omega
      rw [this]; rfl
  unfold dataX
  rw [h4, h5, h6, h9]
  rfl
theorem modX_M (s : Bool) (r v : Nat) (hr : r < 13) (hv : v < 4096) (y : Nat) (h : (expandS (v : Nat) false).1 = (y : Nat)) (h' : (expandS (v : Nat) false).2.2 = true) : modX (wordM s r v) = movJ s r y (bif Nat.beq (v / 1024) 0 then 0 else 1) := by
  obtain ⟨h0, h1, h2, h3, h4, h5, h6, h7, h8⟩ := wordM_is s r v (by omega) hv
  unfold modX
  rw [dataX_M s r v hr hv, h8, h, h']
  cases hb : Nat.beq (v / 1024) 0
  · exact checked_mov s r hr (y : Nat) 1 (.inr (.inl rfl)) _
  · exact checked_mov s r hr (y : Nat) 0 (.inl rfl) _
theorem aloneP_c (r v : Nat) (hr : r < 13) (w : World) : Calls Try.prog 12 #[.int .u32 (wordP r v : Nat)] w fun e w' => Says w (movJ false r (v % 65536) 2) e w' := by
  obtain ⟨h0, h1, h2, h3, _⟩ := wordP_is r v (by omega)
  rw [← plaX_P r v hr]
  rcases h3 with h3 | h3
  · exact alone121_c _ h0 h1 h2 h3 w
  · exact alone123_c _ h0 h1 h2 h3 w
theorem aloneM_c (s : Bool) (r v : Nat) (hr : r < 13) (hv : v < 4096) (y : Nat) (h : (expandS (v : Nat) false).1 = (y : Nat)) (h' : (expandS (v : Nat) false).2.2 = true) (w : World) : Calls Try.prog 12 #[.int .u32 (wordM s r v : Nat)] w fun e w' => Says w (movJ s r y (bif Nat.beq (v / 1024) 0 then 0 else 1)) e w' := by
  obtain ⟨h0, h1, h2, h3, _⟩ := wordM_is s r v (by omega) hv
  rw [← modX_M s r v hr hv y h h']
  rcases h3 with h3 | h3
  · exact alone120_c _ h0 h1 h2 h3 w
  · exact alone122_c _ h0 h1 h2 h3 w
end Go.Proofs.Ytigmekboikgoaaa
