/- Stage 9: the document: numbers, at every pair of halves. -/
import Derived.Test.YtigmekboikgoaaaWg23
import Derived.Test.YtigmekboikgoaaaWe6
import Derived.Test.YtigmekboikgoaaaWg10
namespace Go.Proofs.Ytigmekboikgoaaa
open Go.ChangeShapes Go.WideShapes Go.ChangeAt Go.RowKit
set_option linter.unusedVariables false
set_option linter.unusedSimpArgs false

def chkA (d n : Nat) : Bool := ((mayS (secondI (startI 5 d n) 0 2) true == (mayD (secondI (startI 5 d n) 0 2) && mayN (secondI (startI 5 d n) 0 2)))) && ((mayS (secondI (startI 3 d n) 0 2) true == (mayD (secondI (startI 3 d n) 0 2) && mayN (secondI (startI 3 d n) 0 2))))
theorem chkA_all : (List.range 16).all (fun d => (List.range 16).all fun n => chkA d n) = true := by decide +kernel
theorem chkA_at (d n : Nat) (hd : d < 16) (hn : n < 16) : chkA d n = true := List.all_eq_true.1 (List.all_eq_true.1 chkA_all d (List.mem_range.2 hd)) n (List.mem_range.2 hn)
theorem add_fin (op : Int) (ho : (op == 65) = false) (d n : Nat) (v : Int) (x : Nat) (h : mayS (secondI (startI op d n) v 2) true = (mayD (secondI (startI op d n) v 2) && mayN (secondI (startI op d n) v 2))) :
    fin (bif mayS (secondI (startI op d n) v 2) true then secondI (startI op d n) v 2 else startI 65 0 0) true x = checkedI (secondI (startI op d n) v 2) true x := by
  unfold checkedI
  rw [h]
  have e3 : resS (secondI (startI op d n) v 2).m = false := rfl
  have e4 : resS (secondI (startI op d n) v 2).a = false := rfl
  rw [e3, e4]
  unfold fin
  cases mayD (secondI (startI op d n) v 2) <;> cases mayN (secondI (startI op d n) v 2)
  · rfl
  · rfl
  · rfl
  · show (bif true then (bif op == 65 then noneI 65 x else secondI (startI op d n) v 2) else noneI 64 x) = _
    rw [ho]
    rfl
theorem mov_fin (J : IV) (ho : (J.op == 65) = false) (hn : J.n = 0) (hm : J.m = 0) (ha : resS J.a = false) (x : Nat) : fin (bif oddS J.d then startI 65 0 0 else J) true x = checkedI J true x := by
  have e2 : mayD J = !oddS J.d := by
    unfold mayD
    rw [hn]
    show (bif (J.d == 13 && (false && J.useImm)) then (J.op == 5 || J.op == 3) else !resS J.d) = !oddS J.d
    rw [Bool.false_and, Bool.and_false, cond_false]
    rfl
  have e1 : mayN J = true := by
    unfold mayN
    rw [hn]
    rfl
  unfold checkedI
  rw [e1, e2, hm, ha]
  unfold fin
  cases oddS J.d
  · show (bif true then (bif J.op == 65 then noneI 65 x else J) else noneI 64 x) = _
    rw [ho]
    rfl
  · rfl
def bitG (op : Int) (d n at5 w5 x : Nat) : IV := checkedI (immI (startI op d n) (((at5 : Int) + 32 * ((w5 : Int) + 1 - bif op == 33 then (at5 : Int) else 0)) % 4294967296)) (decide (1 ≤ (w5 : Int) + 1 - bif op == 33 then (at5 : Int) else 0) && decide ((at5 : Int) + ((w5 : Int) + 1 - bif op == 33 then (at5 : Int) else 0) ≤ 32)) x
theorem bitX_g (op : Int) (x : Nat) (h26 : fd x 26 1 = 0) (h5 : fd x 5 1 = 0) : bitX op x = bitG op (fd x 8 4) (fd x 16 4) (fd x 12 3 * 4 + fd x 6 2) (fd x 0 5) x := by
  unfold bitX
  rw [h26, h5]
  rfl
theorem bitX_z (op : Int) (x : Nat) (h : fd x 26 1 = 1 ∨ fd x 5 1 = 1) : bitX op x = noneI 64 x := by
  unfold bitX
  rcases h with h | h <;> rw [h]
  · rfl
  · rw [show ((1 : Nat) != 0) = true from rfl, Bool.or_true]
    rfl
theorem bit_chk (op : Int) (ho : op = 31 ∨ op = 32) (d n : Nat) (v : Int) (ok : Bool) (x : Nat) : checkedI (immI (startI op d n) v) ok x = bif !ok || (oddS d || oddS n) then noneI 65 x else immI (startI op d n) v := by
  have e2 : mayD (immI (startI op d n) v) = !oddS d := by
    unfold mayD
    show (bif ((d : Int) == 13 && ((n : Int) == 13 && false)) then (op == 5 || op == 3) else !resS d) = !oddS d
    rw [Bool.and_false, Bool.and_false, cond_false]
    rfl
  have e1 : mayN (immI (startI op d n) v) = !oddS n := by
    unfold mayN oddS
    show (bif (n : Int) == 13 then (classS op == 4 || (classS op == 5 || (false && sumW op))) else bif (n : Int) == 15 then (classS op == 4 || op == 33) else true) = !((n : Int) == 13 || (n : Int) == 15)
    rcases ho with rfl | rfl <;> cases ((n : Int) == 13) <;> cases ((n : Int) == 15) <;> rfl
  have e3 : resS (immI (startI op d n) v).m = false := rfl
  have e4 : resS (immI (startI op d n) v).a = false := rfl
  unfold checkedI
  rw [e1, e2, e3, e4]
  cases ok <;> cases oddS d <;> cases oddS n <;> rfl
theorem bfi_chk (d n : Nat) (v : Int) (ok : Bool) (x : Nat) : checkedI (immI (startI 33 d n) v) ok x = bif !ok || (oddS d || (n : Int) == 13) then noneI 65 x else immI (startI 33 d n) v := by
  have e2 : mayD (immI (startI 33 d n) v) = !oddS d := by
    unfold mayD
    show (bif ((d : Int) == 13 && ((n : Int) == 13 && false)) then _ else !resS d) = !oddS d
    rw [Bool.and_false, Bool.and_false, cond_false]
    rfl
  have e1 : mayN (immI (startI 33 d n) v) = !((n : Int) == 13) := by
    unfold mayN
    show (bif (n : Int) == 13 then (classS 33 == 4 || (classS 33 == 5 || (false && sumW 33))) else bif (n : Int) == 15 then (classS 33 == 4 || (33 : Int) == 33) else true) = !((n : Int) == 13)
    cases ((n : Int) == 13) <;> cases ((n : Int) == 15) <;> rfl
  have e3 : resS (immI (startI 33 d n) v).m = false := rfl
  have e4 : resS (immI (startI 33 d n) v).a = false := rfl
  unfold checkedI
  rw [e1, e2, e3, e4]
  cases ok <;> cases oddS d <;> cases ((n : Int) == 13) <;> rfl
def plaG (g : Nat) (x : Nat) : IV :=
  bif Nat.beq g 0 then checkedI (secondI (startI 5 (fd x 8 4 : Nat) (fd x 16 4 : Nat)) (numX x : Nat) 2) true x
  else bif Nat.beq g 10 then checkedI (secondI (startI 3 (fd x 8 4 : Nat) (fd x 16 4 : Nat)) (numX x : Nat) 2) true x
  else bif Nat.beq g 4 then checkedI (secondI (startI 13 (fd x 8 4 : Nat) 0) (fd x 16 4 * 4096 + numX x : Nat) 2) true x
  else bif Nat.beq g 12 then checkedI (immI (startI 30 (fd x 8 4 : Nat) 0) (fd x 16 4 * 4096 + numX x : Nat)) true x
  else bif Nat.beq g 20 then bitX 32 x
  else bif Nat.beq g 28 then bitX 31 x
  else bif Nat.beq g 22 then bitX 33 x
  else noneI 64 x
theorem plaX_g (x : Nat) : plaX x = plaG (fd x 20 5) x := rfl
set_option maxHeartbeats 20000000 in
set_option maxRecDepth 100000 in
theorem rnumbers_c (h k x : Nat) (hh : h < 65536) (hk : k < 65536) (hx0 : x = h * 65536 + k) (w : World) : Calls Try.prog 27 #[.int .u16 h, .int .u16 k] w fun e w' => Two w (plaX x) x e w' := by
  have h0_4 : bits .and .u16 ((h : Int)) 15 = ((fd x 16 4 : Nat) : Int) := by rw [hx0, fdh h k 0 4 hk]; exact fd_u16 h 0 4 hh (by decide) _ _ (by simp) rfl
  have h4_5 : bits .and .u16 ((h : Int) / 16) 31 = ((fd x 20 5 : Nat) : Int) := by rw [hx0, fdh h k 4 5 hk]; exact fd_u16 h 4 5 hh (by decide) _ _ (by simp) rfl
  have h7_1 : bits .and .u16 ((h : Int) / 128) 1 = ((fd x 23 1 : Nat) : Int) := by rw [hx0, fdh h k 7 1 hk]; exact fd_u16 h 7 1 hh (by decide) _ _ (by simp) rfl
  have h10_1 : bits .and .u16 ((h : Int) / 1024) 1 = ((fd x 26 1 : Nat) : Int) := by rw [hx0, fdh h k 10 1 hk]; exact fd_u16 h 10 1 hh (by decide) _ _ (by simp) rfl
  have k8_4 : bits .and .u16 ((k : Int) / 256) 15 = ((fd x 8 4 : Nat) : Int) := by rw [hx0, fdk h k 8 4 (by decide)]; exact fd_u16 k 8 4 hk (by decide) _ _ (by simp) rfl
  have k12_3 : bits .and .u16 ((k : Int) / 4096) 7 = ((fd x 12 3 : Nat) : Int) := by rw [hx0, fdk h k 12 3 (by decide)]; exact fd_u16 k 12 3 hk (by decide) _ _ (by simp) rfl
  have k0_8 : bits .and .u16 ((k : Int)) 255 = ((fd x 0 8 : Nat) : Int) := by rw [hx0, fdk h k 0 8 (by decide)]; exact fd_u16 k 0 8 hk (by decide) _ _ (by simp) rfl
  have k5_1 : bits .and .u16 ((k : Int) / 32) 1 = ((fd x 5 1 : Nat) : Int) := by rw [hx0, fdk h k 5 1 (by decide)]; exact fd_u16 k 5 1 hk (by decide) _ _ (by simp) rfl
  have k6_2 : bits .and .u16 ((k : Int) / 64) 3 = ((fd x 6 2 : Nat) : Int) := by rw [hx0, fdk h k 6 2 (by decide)]; exact fd_u16 k 6 2 hk (by decide) _ _ (by simp) rfl
  have k0_5 : bits .and .u16 ((k : Int)) 31 = ((fd x 0 5 : Nat) : Int) := by rw [hx0, fdk h k 0 5 (by decide)]; exact fd_u16 k 0 5 hk (by decide) _ _ (by simp) rfl
  have f16_4 : fd x 16 4 < 16 := fd_lt x 16 4
  have f26_1 : fd x 26 1 < 2 := fd_lt x 26 1
  have f8_4 : fd x 8 4 < 16 := fd_lt x 8 4
  have f12_3 : fd x 12 3 < 8 := fd_lt x 12 3
  have f0_8 : fd x 0 8 < 256 := fd_lt x 0 8
  have f20_5 : fd x 20 5 < 32 := fd_lt x 20 5
  have f5_1 : fd x 5 1 < 2 := fd_lt x 5 1
  have f6_2 : fd x 6 2 < 4 := fd_lt x 6 2
  have f0_5 : fd x 0 5 < 32 := fd_lt x 0 5
  have hN := numX_lt x
  have hX : numX x = fd x 26 1 * 2048 + fd x 12 3 * 256 + fd x 0 8 := rfl
  have j1 : bits .or .u32 ((fd x 26 1 : Nat) * 2048 : Int) ((fd x 12 3 : Nat) * 256 : Int) = ((fd x 26 1 * 2048 + fd x 12 3 * 256 : Nat) : Int) := u32_join (fd x 26 1 * 2048) (fd x 12 3 * 256) 11 (by omega) (by omega) (by omega) (by omega)
  have j2 : bits .or .u32 ((fd x 26 1 * 2048 + fd x 12 3 * 256 : Nat) : Int) (fd x 0 8 : Nat) = (numX x : Nat) := u32_join (fd x 26 1 * 2048 + fd x 12 3 * 256) (fd x 0 8) 8 (by omega) (by omega) (by omega) (by omega)
  have j3 : bits .or .u32 ((fd x 16 4 : Nat) * 4096 : Int) (numX x : Nat) = ((fd x 16 4 * 4096 + numX x : Nat) : Int) := u32_join (fd x 16 4 * 4096) (numX x) 12 (by omega) (by omega) (by omega) (by omega)
  have jat : bits .or .u16 ((fd x 12 3 : Nat) * 4 : Int) (fd x 6 2 : Nat) = ((fd x 12 3 * 4 + fd x 6 2 : Nat) : Int) := u16_join (fd x 12 3 * 4) (fd x 6 2) 2 (by omega) (by omega) (by omega) (by omega)
  have e7 : fd x 23 1 = fd x 20 5 / 8 % 2 := by unfold fd; omega
  have cA := chkA_at (fd x 8 4) (fd x 16 4) f8_4 f16_4
  unfold chkA at cA
  simp only [Bool.and_eq_true, beq_iff_eq] at cA
  have hP := plaX_g x
  refine rnum_g h k (fd x 8 4) (fd x 16 4) (fd x 26 1) (fd x 12 3) (fd x 0 8) (fd x 26 1 * 2048 + fd x 12 3 * 256) (numX x) (fd x 16 4 * 4096 + numX x) (fd x 20 5) (fd x 23 1) (fd x 5 1) (fd x 6 2) (fd x 12 3 * 4 + fd x 6 2) (fd x 0 5) x
    (mayS (secondI (startI 5 (fd x 8 4 : Nat) (fd x 16 4 : Nat)) (numX x : Nat) 2) true) (mayS (secondI (startI 3 (fd x 8 4 : Nat) (fd x 16 4 : Nat)) (numX x : Nat) 2) true) (plaX x)
    k8_4 h0_4 h10_1 k12_3 k0_8 j1 j2 j3 h4_5 h7_1 e7 k5_1 k6_2 jat k0_5 f8_4 f16_4 f26_1 f12_3 f0_8 hN (by omega) f20_5 f5_1 f6_2 (by omega) f0_5 (rmay_c _ true) (rmay_c _ true) ?_ ?_ ?_ ?_ ?_ ?_ ?_ ?_ ?_ ?_ w
  all_goals
    rw [hP]
    clear h0_4 h4_5 h7_1 h10_1 k8_4 k12_3 k0_8 k5_1 k6_2 k0_5 j1 j2 j3 jat e7
    generalize fd x 20 5 = g at *
  · intro hg
    subst hg
    exact add_fin 5 rfl _ _ _ x cA.1
  · intro hg
    subst hg
    exact add_fin 3 rfl _ _ _ x cA.2
  · intro hg
    subst hg
    exact mov_fin (secondI (startI 13 (fd x 8 4 : Nat) 0) (fd x 16 4 * 4096 + numX x : Nat) 2) rfl rfl rfl rfl x
  · intro hg
    subst hg
    exact mov_fin (immI (startI 30 (fd x 8 4 : Nat) 0) (fd x 16 4 * 4096 + numX x : Nat)) rfl rfl rfl rfl x
  · intro hg hz
    rcases hg with rfl | rfl | rfl
    · exact (bitX_z 32 x hz).symm
    · exact (bitX_z 31 x hz).symm
    · exact (bitX_z 33 x hz).symm
  · intro hg h26 h5 hq
    clear hP cA
    have hb : ∀ op : Int, (op = 31 ∨ op = 32) → noneI 65 x = bitX op x := by
      intro op ho
      rw [bitX_g op x h26 h5]
      unfold bitG
      rw [bit_chk op ho, show (op == 33) = false by rcases ho with rfl | rfl <;> rfl]
      rcases hq with hq | hq | hq
      · rw [show decide (((fd x 12 3 * 4 + fd x 6 2 : Nat) : Int) + ((fd x 0 5 : Nat) + 1 - bif false then ((fd x 12 3 * 4 + fd x 6 2 : Nat) : Int) else 0) ≤ 32) = false by simp; omega, Bool.and_false]
        rfl
      · rw [hq, Bool.true_or, Bool.or_true]
        rfl
      · rw [hq, Bool.or_true, Bool.or_true]
        rfl
    rcases hg with rfl | rfl
    · exact hb 32 (.inr rfl)
    · exact hb 31 (.inl rfl)
  · intro op hg h26 h5 hm hd hn
    clear hP cA
    have hb : ((op : Int) = 31 ∨ (op : Int) = 32) → immI (startI op (fd x 8 4 : Nat) (fd x 16 4 : Nat)) (((fd x 12 3 * 4 + fd x 6 2 : Nat) : Int) + 32 * ((fd x 0 5 : Nat) + 1)) = bitX op x := by
      intro ho
      rw [bitX_g op x h26 h5]
      unfold bitG
      rw [bit_chk op ho, show ((op : Int) == 33) = false by rcases ho with e | e <;> rw [e] <;> rfl, hd, hn]
      rw [show decide (((fd x 12 3 * 4 + fd x 6 2 : Nat) : Int) + ((fd x 0 5 : Nat) + 1 - bif false then ((fd x 12 3 * 4 + fd x 6 2 : Nat) : Int) else 0) ≤ 32) = true by simp; omega]
      rw [show decide (1 ≤ ((fd x 0 5 : Nat) : Int) + 1 - bif false then ((fd x 12 3 * 4 + fd x 6 2 : Nat) : Int) else 0) = true by simp; omega]
      have e : (((fd x 12 3 * 4 + fd x 6 2 : Nat) : Int) + 32 * ((fd x 0 5 : Nat) + 1 - bif false then ((fd x 12 3 * 4 + fd x 6 2 : Nat) : Int) else 0)) % 4294967296 = ((fd x 12 3 * 4 + fd x 6 2 : Nat) : Int) + 32 * ((fd x 0 5 : Nat) + 1) := by simp; omega
      rw [e]
      rfl
    rcases hg with ⟨rfl, rfl⟩ | ⟨rfl, rfl⟩
    · exact hb (.inr rfl)
    · exact hb (.inl rfl)
  · intro hg h26 h5 hq
    clear hP cA
    subst hg
    show noneI 65 x = bitX 33 x
    rw [bitX_g 33 x h26 h5]
    unfold bitG
    rw [bfi_chk, show ((33 : Int) == 33) = true from rfl]
    rcases hq with hq | hq | hq
    · rw [show decide (1 ≤ ((fd x 0 5 : Nat) : Int) + 1 - bif true then ((fd x 12 3 * 4 + fd x 6 2 : Nat) : Int) else 0) = false by simp; omega, Bool.false_and]
      rfl
    · rw [hq, Bool.true_or, Bool.or_true]
      rfl
    · rw [show (((fd x 16 4 : Nat) : Int) == 13) = true by simp; omega, Bool.or_true, Bool.or_true]
      rfl
  · intro hg h26 h5 hm hd hn
    clear hP cA
    subst hg
    show immI (startI 33 (fd x 8 4 : Nat) (fd x 16 4 : Nat)) (((fd x 12 3 * 4 + fd x 6 2 : Nat) : Int) + 32 * ((fd x 0 5 : Nat) + 1 - ((fd x 12 3 * 4 + fd x 6 2 : Nat) : Int))) = bitX 33 x
    rw [bitX_g 33 x h26 h5]
    unfold bitG
    rw [bfi_chk, show ((33 : Int) == 33) = true from rfl, hd]
    rw [show (((fd x 16 4 : Nat) : Int) == 13) = false by simp; omega]
    rw [show decide (((fd x 12 3 * 4 + fd x 6 2 : Nat) : Int) + ((fd x 0 5 : Nat) + 1 - bif true then ((fd x 12 3 * 4 + fd x 6 2 : Nat) : Int) else 0) ≤ 32) = true by simp; omega]
    rw [show decide (1 ≤ ((fd x 0 5 : Nat) : Int) + 1 - bif true then ((fd x 12 3 * 4 + fd x 6 2 : Nat) : Int) else 0) = true by simp; omega]
    have e : (((fd x 12 3 * 4 + fd x 6 2 : Nat) : Int) + 32 * ((fd x 0 5 : Nat) + 1 - bif true then ((fd x 12 3 * 4 + fd x 6 2 : Nat) : Int) else 0)) % 4294967296 = ((fd x 12 3 * 4 + fd x 6 2 : Nat) : Int) + 32 * ((fd x 0 5 : Nat) + 1 - ((fd x 12 3 * 4 + fd x 6 2 : Nat) : Int)) := by simp; omega
    rw [e]
    rfl
  · intro a b c d e f g'
    unfold plaG
    rw [show Nat.beq g 0 = false by rw [nbeq]; simp; omega, show Nat.beq g 10 = false by rw [nbeq]; simp; omega, show Nat.beq g 4 = false by rw [nbeq]; simp; omega, show Nat.beq g 12 = false by rw [nbeq]; simp; omega, show Nat.beq g 20 = false by rw [nbeq]; simp; omega, show Nat.beq g 28 = false by rw [nbeq]; simp; omega, show Nat.beq g 22 = false by rw [nbeq]; simp; omega]
    rfl
end Go.Proofs.Ytigmekboikgoaaa
