/- ThumbTells, walked. -/
import Derived.Test.YtblcklknlfofgaaDoorThK
import Derived.Test.YtblcklknlfofgaaDoorRd18
import Derived.Test.YtblcklknlfofgaaDoorRdHy
namespace Go.Proofs.YtblcklknlfofgaaDoor
open Go.ChangeShapes Go.WideShapes Go.ChangeAt Go.RowKit
set_option linter.unusedVariables false
set_option linter.unusedSimpArgs false

def tel1 (w : World) (i : Value) (wr : World) : Prop := ∃ k : Nat, k ≤ 40 ∧ i = .int .u16 k ∧ Below w.heap.size w wr
def tel2 (w : World) (g : Nat) (hs : List Nat) (j : Value) (wr : World) : Prop := ∃ k : Nat, k ≤ 4 ∧ j = .int .i64 k ∧ SH noZ w wr [(g, Cel.any (uc hs))]
theorem nat16 (x : Int) (h0 : 0 ≤ x) (h1 : x ≤ 65535) : ∃ n : Nat, x = n ∧ n < 65536 := ⟨x.toNat, by omega, by omega⟩
set_option maxHeartbeats 8000000 in
set_option maxRecDepth 100000 in
theorem tells_c (h g k : Int) (h0 : 0 ≤ h) (h1 : h ≤ 65535) (g0 : 0 ≤ g) (g1 : g ≤ 65535) (k0 : 0 ≤ k) (k1 : k ≤ 255) (w : World) (HT : LT w) : Calls Tryd.prog 3 #[.int .u16 h, .int .u16 g, .int .u8 k] w fun e w' => e = .returned (.bool true) ∧ Below w.heap.size w w' := by
  have CK : Hid (∀ w1, LT w1 → Calls Tryd.prog 8 #[] w1 fun e w' => e = .returned (.bool true) ∧ Below w1.heap.size w1 w') := known_c
  go_enter Tryd.func3, Tryd.ntmps3
  go_wp2_with (go_at_call 8; refine (CK.out _ HT).mono ?_; rintro e w2 ⟨rfl, hb2⟩)
  have ST : Hid (tel1 w (.int .u16 0) w2) := ⟨0, by decide, rfl, hb2⟩
  clear hb2 CK
  go_loopw [7] (fun i wr => tel1 w i wr) (fun i _ => 40 - (intOf i).toNat)
  case atStart => exact ST.out
  case round =>
    clear ST
    obtain ⟨q, q40, rfl, hb⟩ := hrel
    obtain ⟨wO, rfl⟩ : ∃ x, x = wr := ⟨wr, rfl⟩
    have HBB : Hid (Below w.heap.size w wO) := hb
    clear hb
    by_cases hlt : q < 40
    · have hlt' : (q : Int) < 40 := by omega
      have CH : Hid (∀ (x : Int) (w1 : World), 0 ≤ x → Calls Tryd.prog 9 #[.int .u8 x, .int .u16 g] w1 fun e w' => Some16 w1 e w') := fun x w1 hx => half_c x g hx g0 g1 w1
      obtain ⟨n1, e1, m1⟩ := nat16 (IntKind.u16.wrap (h + (q : Int))) (by rw [IntKind.wrap_u16]; omega) (by rw [IntKind.wrap_u16]; omega)
      obtain ⟨n2, e2, m2⟩ := nat16 (bits .xor .u16 g (IntKind.u16.wrap (2 ^ (q % 16)))) (b16 _ _ _).1 (b16 _ _ _).2
      obtain ⟨n3, e3, m3⟩ := nat16 (bits .or .u16 (bits .and .u16 h 63488) g) (b16 _ _ _).1 (b16 _ _ _).2
      have S := SH.start wO
      go_wp2_with (first
        | ((with_reducible refine wpl_isDst 34 ?_); obtain ⟨n4, rfl, m4⟩ := nat16 y y0 y1; refine S.sliceAny rfl 25 4 _ rfl (uc [n1, n2, n3, n4]) 22 (by kernel_rfl) ?_; clear S; intro gs w1 S)
        | (go_at_call 9; refine (CH.out _ _ (by omega)).mono ?_; rintro e wf ⟨⟨y, rfl, y0, y1⟩, hbf⟩; replace S := S.below hbf; clear hbf))
      obtain ⟨hs, hhs⟩ : ∃ hs : List Nat, hs = [n1, n2, n3, n4] := ⟨_, rfl⟩
      have HS : Hid (hs.length = 4 ∧ ∀ x ∈ hs, x < 65536) := by
        rw [hhs]
        refine ⟨rfl, fun x hx => ?_⟩
        simp only [List.mem_cons, List.not_mem_nil, or_false] at hx
        rcases hx with rfl | rfl | rfl | rfl <;> assumption
      rw [← hhs] at S
      clear hhs CH e1 e2 e3 m1 m2 m3 m4 y0 y1
      have ST2 : Hid (tel2 wO gs hs (.int .i64 0) w1) := ⟨0, by decide, rfl, S⟩
      clear S
      go_loopw [36] (fun j wq => tel2 wO gs hs j wq) (fun j _ => 4 - (intOf j).toNat)
      case atStart => exact ST2.out
      case round =>
        clear ST2
        obtain ⟨j, hj4, rfl, S⟩ := hrel
        by_cases hj : j < 4
        · have hj' : (j : Int) < 4 := by omega
          obtain ⟨x, hx⟩ : ∃ x, hs[j]? = some x := ⟨hs[j]'(by have := HS.out.1; omega), by simp⟩
          have hx16 : x < 65536 := HS.out.2 x (List.mem_of_getElem? hx)
          have HX : Hid ((Cel.any (uc hs)).cells[j]? = some (.int .u16 (x : Nat))) := by
            show (uc hs)[j]? = _
            simp [uc, hx]
          clear hx
          have HO : Hid (LT wO) := HT.next HBB.out
          have D0 : Hid (∀ w1, LT w1 → Calls Tryd.prog 12 #[.int .u16 (x : Int), .bool false] w1 fun e w' => e = .returned (decN x false).iv.val ∧ Below w1.heap.size w1 w') := fun w1 hw1 => decode_c x hx16 false w1 hw1
          have D1 : Hid (∀ w1, LT w1 → Calls Tryd.prog 12 #[.int .u16 (x : Int), .bool true] w1 fun e w' => e = .returned (decN x true).iv.val ∧ Below w1.heap.size w1 w') := fun w1 hw1 => decode_c x hx16 true w1 hw1
          have R0 : Hid (∀ w1, Calls Tryd.prog 13 #[.int .u16 (x : Int), .bool false] w1 fun e w' => e = .returned (decN x false).iv.val ∧ Below w1.heap.size w1 w') := fun w1 => rdecode_c x hx16 false w1
          have R1 : Hid (∀ w1, Calls Tryd.prog 13 #[.int .u16 (x : Int), .bool true] w1 fun e w' => e = .returned (decN x true).iv.val ∧ Below w1.heap.size w1 w') := fun w1 => rdecode_c x hx16 true w1
          have W0 : Hid (∀ w1, Calls Tryd.prog 10 #[.int .u16 (x : Int)] w1 fun e w' => e = .returned (.bool (wideN x)) ∧ w' = w1) := fun w1 => wide_c x hx16 w1
          have W1 : Hid (∀ w1, Calls Tryd.prog 11 #[.int .u16 (x : Int)] w1 fun e w' => e = .returned (.bool (wideN x)) ∧ w' = w1) := fun w1 => riswide_c x hx16 w1
          generalize wideN x = Bw at *
          generalize (decN x false).iv = J0 at *
          generalize (decN x true).iv = J1 at *
          clear hx16
          cases Bw
          all_goals
            go_wp2_with (first
              | ((with_reducible refine wpl_isLoad ?_); refine S.ld 22 _ rfl gs j rfl 0 (Cel.any (uc hs)) rfl (.int .u16 (x : Nat)) HX.out _ Tryd.underlying22 rfl rfl ?_)
              | ((with_reducible refine wpl_isDst 50 ?_); refine wpl_neqB _ _ _ rfl J0 J0 rfl rfl false (by rw [ivEq_self]; rfl) rfl ?_)
              | ((with_reducible refine wpl_isDst 57 ?_); refine wpl_neqB _ _ _ rfl J1 J1 rfl rfl false (by rw [ivEq_self]; rfl) rfl ?_)
              | (go_at_call 10; with_reducible refine (W0.out _).mono ?_; rintro e wf ⟨rfl, rfl⟩)
              | (go_at_call 11; with_reducible refine (W1.out _).mono ?_; rintro e wf ⟨rfl, rfl⟩)
              | (go_at_call 12; (first | with_reducible refine (D0.out _ (HO.out.next S.low)).mono ?_ | with_reducible refine (D1.out _ (HO.out.next S.low)).mono ?_); rintro e wf ⟨rfl, hbf⟩; replace S := S.below hbf; clear hbf)
              | (go_at_call 13; (first | with_reducible refine (R0.out _).mono ?_ | with_reducible refine (R1.out _).mono ?_); rintro e wf ⟨rfl, hbf⟩; replace S := S.below hbf; clear hbf))
            go_roundw
            case rel => exact ⟨j + 1, hj, by push_cast; rfl, S⟩
            case measure =>
              simp only [intOf]
              omega
        · have hj' : ¬ (j : Int) < 4 := by omega
          have SB : Hid (Below wO.heap.size wO wr) := S.low
          clear S
          go_wp2
          go_roundw
          case rel => exact ⟨q + 1, by omega, by push_cast; rfl, HBB.out.trans (SB.out.mono HBB.out.size)⟩
          case measure =>
            simp only [intOf]
            omega
    · have hlt' : ¬ (q : Int) < 40 := by omega
      go_wp2
      go_ret
      exact ⟨rfl, HBB.out⟩
end Go.Proofs.YtblcklknlfofgaaDoor
