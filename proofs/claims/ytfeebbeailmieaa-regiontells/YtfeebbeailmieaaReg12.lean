/- RegionTells, walked. -/
import Derived.Test.YtfeebbeailmieaaReg10
import Derived.Test.YtfeebbeailmieaaReg6
namespace Go.Proofs.Ytfeebbeailmieaa
open Go.ChangeShapes Go.WideShapes Go.ChangeAt Go.RowKit
set_option linter.unusedVariables false
set_option linter.unusedSimpArgs false

/-- Three lists of regions. -/
theorem three (w : World) (A0 A1 A2 : Option Addr) (n0 n1 n2 c0 c1 c2 : Nat) (R0 R1 R2 : Nat → Reg) (h0 : Lies w A0 n0 R0) (h1 : Lies w A1 n1 R1) (h2 : Lies w A2 n2 R2) (m0 : n0 ≤ 10) (m1 : n1 ≤ 10) (m2 : n2 ≤ 10) :
    ∃ (AA : Nat → Option Addr) (NN CC : Nat → Nat) (RR : Nat → Nat → Reg), ∀ j, j < 3 → (w.alloc (Obj.cells #[.slice A0 n0 c0, .slice A1 n1 c1, .slice A2 n2 c2] 22)).cell? ⟨w.heap.size, j, none⟩ = some (.slice (AA j) (NN j) (CC j)) ∧ NN j ≤ 10 ∧
      Lies (w.alloc (Obj.cells #[.slice A0 n0 c0, .slice A1 n1 c1, .slice A2 n2 c2] 22)) (AA j) (NN j) (RR j) := by
  refine ⟨fun j => match j with | 0 => A0 | 1 => A1 | _ => A2, fun j => match j with | 0 => n0 | 1 => n1 | _ => n2, fun j => match j with | 0 => c0 | 1 => c1 | _ => c2, fun j => match j with | 0 => R0 | 1 => R1 | _ => R2, fun j hj => ?_⟩
  have h3 : j = 0 ∨ j = 1 ∨ j = 2 := by omega
  have hb : Below w.heap.size w (w.alloc (Obj.cells #[.slice A0 n0 c0, .slice A1 n1 c1, .slice A2 n2 c2] 22)) := (Below.refl _ _).alloc (Nat.le_refl _) _
  rcases h3 with rfl | rfl | rfl
  · exact ⟨by rw [World.cell?_alloc_new]; rfl, m0, h0.below hb (Nat.le_refl _)⟩
  · exact ⟨by rw [World.cell?_alloc_new]; rfl, m1, h1.below hb (Nat.le_refl _)⟩
  · exact ⟨by rw [World.cell?_alloc_new]; rfl, m2, h2.below hb (Nat.le_refl _)⟩

set_option maxRecDepth 100000 in
set_option maxHeartbeats 16000000 in
theorem tells_walk (A0 A1 A2 : Option Addr) (n0 k0 n1 k1 n2 k2 : Nat) (R0 : Nat → Reg) (V1 : Nat → Nat → Int) (V2 : Nat → Int) (a s wh : Int) (wri : Bool) (ha0 : 0 ≤ a) (ha1 : a ≤ 4294967295) (hh0 : 0 ≤ wh) (hh1 : wh ≤ 255) (w : World)
    (hl0 : Lies w A0 n0 R0) (hl1 : Lies4 w A1 n1 V1) (hl2 : Lies1 w A2 n2 V2) :
    Calls Try.prog 3 #[.slice A0 n0 k0, .slice A1 n1 k1, .slice A2 n2 k2, .int .u32 a, .int .u32 s, .bool wri, .int .u8 wh] w fun e w' => e = .returned (.bool true) ∧ Below w.heap.size w w' := by
  have hm0 := hl0.1
  have hm1 := hl1.1
  have K : Hid _ := known_c w
  have HE : Hid _ := fun (v : World) (h : Below w.heap.size w v) => help_c A0 n0 k0 R0 v (hl0.below h (Nat.le_refl _))
  have SO : Hid _ := fun (v : World) (h : Below w.heap.size w v) (hn : n1 ≤ 10) => some_c A1 A2 n1 k1 n2 k2 V1 V2 v hn (hl1.below h (Nat.le_refl _)) (hl2.below h (Nat.le_refl _))
  have SE : Hid _ := fun (v : World) => seat_c v
  have HL0 : Hid (Lies w A0 n0 R0) := hl0
  clear hl0 hl1 hl2
  obtain ⟨m, hm, hm5⟩ : ∃ m : Nat, wh % 5 = (m : Int) ∧ m < 5 := ⟨(wh % 5).toNat, by omega, by omega⟩
  go_enter Try.func3, Try.ntmps3
  go_wp2_with fail
  refine Calls.mono K.out ?_
  rintro e w0 ⟨rfl, hw0⟩
  have HB0 : Hid _ := hw0
  clear hw0
  go_wp2_with fail
  refine (HE.out _ HB0.out).mono ?_
  rintro e w1 ⟨⟨hv, rfl, hv10⟩, hw1⟩
  replace hw1 := hw1.symm
  subst hw1
  cases hv with
  | false =>
    clear hv10
    go_wp2
    go_ret
    exact ⟨rfl, HB0.out⟩
  | true =>
    have n10 := hv10 rfl
    clear hv10
    by_cases h10 : (10 : Int) < n1
    · go_wp2
      go_ret
      exact ⟨rfl, HB0.out⟩
    · have hd10 : decide ((10 : Int) < n1) = false := by simpa using h10
      go_wp2_with fail
      refine (SO.out _ HB0.out (by omega)).mono ?_
      rintro e w2 ⟨A', n', c', R', rfl, hn', hl', hb'⟩
      have HL' : Hid (Lies w2 A' n' R') := hl'
      have HB2 : Hid (Below w.heap.size w w2) := HB0.out.trans (hb'.mono HB0.out.size)
      clear hl' hb' HB0
      go_wp2_with fail
      refine (SE.out _).mono ?_
      rintro e w3 ⟨rfl, hl3, hs3, hb3⟩
      have HB3 : Hid (Below w.heap.size w w3) := HB2.out.trans (hb3.mono HB2.out.size)
      have HT : Hid _ := three w3 A0 A' (some ⟨w2.heap.size, 0, none⟩) n0 n' 4 k0 c' 4 R0 R' seatR (HL0.out.below HB3.out (Nat.le_refl _)) (HL'.out.below hb3 (Nat.le_refl _)) hl3 n10 (by omega) (by omega)
      clear hl3 hs3 hb3 HL' HL0 HB2
      go_wp2_with fail
      have HB4 : Hid (Below w.heap.size w (w3.alloc (Obj.cells #[.slice A0 n0 k0, .slice A' n' c', .slice (some ⟨w2.heap.size, 0, none⟩) 4 4] 22))) := HB3.out.alloc HB3.out.size _
      have HG : Hid (w3.heap.size < (w3.alloc (Obj.cells #[.slice A0 n0 k0, .slice A' n' c', .slice (some ⟨w2.heap.size, 0, none⟩) 4 4] 22)).heap.size) := by show _ < _; rw [alloc_size']; omega
      obtain ⟨AA, NN, CC, RR, hAA⟩ := HT.out
      have HA : Hid _ := hAA
      clear hAA HT
      generalize w3.alloc (Obj.cells #[.slice A0 n0 k0, .slice A' n' c', .slice (some ⟨w2.heap.size, 0, none⟩) 4 4] 22) = W at *
      generalize w3.heap.size = G at *
      clear SO SE HE K HB3
      go_loopw [42] (fun i wr => ∃ j : Nat, j ≤ 3 ∧ i = .int .i64 j ∧ Below W.heap.size W wr) (fun i _ => 3 - (intOf i).toNat)
      case atStart => exact ⟨0, Nat.zero_le _, rfl, Below.refl _ _⟩
      case round =>
        obtain ⟨j, hj, rfl, hb⟩ := hrel
        by_cases hj3 : j < 3
        · obtain ⟨hc, hN, hLL⟩ := HA.out j hj3
          have hcell := (hb.cell HG.out).trans hc
          have hj3' : (j : Int) < 3 := by omega
          have HL : Hid (Lies W (AA j) (NN j) (RR j)) := hLL
          clear hc hLL HA HG
          generalize AA j = A at *
          generalize NN j = n at *
          generalize CC j = c at *
          generalize RR j = R at *
          have hnn : (n : Int) ≤ 10 := by omega
          have C1 : Hid _ := fun (v : World) (h : Below W.heap.size W v) => (check_c A n c R v (HL.out.below h (Nat.le_refl _))).mono (fun e w' ⟨h1, h2⟩ => (⟨h1, h.trans (h2.mono h.size)⟩ : _ ∧ Below W.heap.size W w'))
          have C2 : Hid _ := fun (v : World) (h : Below W.heap.size W v) => (rcheck_c A n c R v hN (HL.out.below h (Nat.le_refl _))).mono (fun e w' ⟨h1, h2⟩ => (⟨h1, h.trans (h2.mono h.size)⟩ : _ ∧ Below W.heap.size W w'))
          generalize checkS R n = ck at *
          have HB : Hid _ := hb
          clear hb
          go_wp2_with fail
          refine (C1.out _ HB.out).mono ?_
          rintro e w5 ⟨rfl, h5⟩
          have HB5 : Hid _ := h5
          clear h5 HB
          go_wp2_with fail
          refine (C2.out _ HB5.out).mono ?_
          rintro e w6 ⟨rfl, h6⟩
          have HB6 : Hid _ := h6
          clear h6 HB5 C1 C2
          go_wp2_with fail
          go_loopw [17] (fun i wr => ∃ i' : Nat, i' ≤ n + 1 ∧ i = .int .i64 i' ∧ Below W.heap.size W wr) (fun i _ => n + 1 - (intOf i).toNat)
          case atStart => exact ⟨0, Nat.zero_le _, rfl, HB6.out⟩
          case round =>
            obtain ⟨i, hi, rfl, hb⟩ := hrel
            by_cases hin : i < n + 1
            · have hin' : (i : Int) < n + 1 := by omega
              by_cases hii : i < n
              · have hii' : (i : Int) < n := by omega
                obtain ⟨hw, b, o, rfl, h7⟩ := HL.out.2 i hii
                obtain ⟨d0, d1, d2, d3, d4, d5, d6⟩ := h7.below hb h7.lt
                have hbw : b < wr.heap.size := Nat.lt_of_lt_of_le h7.lt hb.size
                obtain ⟨q1, q2, q3, q4, q5⟩ := hw
                have HB : Hid _ := hb
                clear hb h7 d2 d3 d4 d5 d6
                generalize (R i).fr = fr at *
                generalize (R i).ln = ln at *
                obtain ⟨X, hX, hX0, hX1⟩ : ∃ X : Int, (∀ h, [Value.int .u32 0, Value.int .u32 (a % 8), Value.int .u32 ((ln - a % 8) % 4294967296), Value.int .u32 ln, Value.int .u32 a][m]'h = (.int .u32 X)) ∧ 0 ≤ X ∧ X ≤ 4294967295 := by
                  have h5 : m = 0 ∨ m = 1 ∨ m = 2 ∨ m = 3 ∨ m = 4 := by omega
                  rcases h5 with rfl | rfl | rfl | rfl | rfl
                  · exact ⟨_, fun _ => rfl, by omega, by omega⟩
                  · exact ⟨_, fun _ => rfl, by omega, by omega⟩
                  · exact ⟨_, fun _ => rfl, by omega, by omega⟩
                  · exact ⟨_, fun _ => rfl, by omega, by omega⟩
                  · exact ⟨_, fun _ => rfl, by omega, by omega⟩
                go_wp2_with fail
                go_big_region
                have HBz : Hid (Below W.heap.size W (wr.alloc (Obj.cells #[Value.int IntKind.u32 0, Value.int IntKind.u32 (a % 8), Value.int IntKind.u32 ((ln - a % 8) % 4294967296), Value.int IntKind.u32 ln, Value.int IntKind.u32 a] 25)).drew) := (HB.out.alloc HB.out.size _).drew
                generalize (wr.alloc (Obj.cells #[Value.int IntKind.u32 0, Value.int IntKind.u32 (a % 8), Value.int IntKind.u32 ((ln - a % 8) % 4294967296), Value.int IntKind.u32 ln, Value.int IntKind.u32 a] 25)).drew = Wz at *
                generalize hpe : (fr + X) % 4294967296 = p at *
                have p0 : 0 ≤ p := by omega
                have p1 : p ≤ 4294967295 := by omega
                clear hpe hX hX0 hX1 hm hbw HB d0 d1 q1 q2 q3 q4 q5
                generalize (ln - a % 8) % 4294967296 = j1 at *
                generalize a % 8 = j2 at *
                go_wp2_with fail
                obtain ⟨Z, hZ⟩ : ∃ Z : Nat → Int, #[Value.int IntKind.u32 s, Value.int IntKind.u32 1, Value.int IntKind.u32 2, Value.int IntKind.u32 4] = #[Value.int IntKind.u32 (Z 0), Value.int IntKind.u32 (Z 1), Value.int IntKind.u32 (Z 2), Value.int IntKind.u32 (Z 3)] := ⟨fun j => match j with | 0 => s | 1 => 1 | 2 => 2 | _ => 4, rfl⟩
                rw [hZ]
                clear hZ
                have HZ : Hid (∀ j, j < 4 → (Wz.alloc (Obj.cells #[Value.int IntKind.u32 (Z 0), Value.int IntKind.u32 (Z 1), Value.int IntKind.u32 (Z 2), Value.int IntKind.u32 (Z 3)] 25)).cell? ⟨Wz.heap.size, j, none⟩ = some (.int .u32 (Z j))) := fun j hj => by
                  have h4 : j = 0 ∨ j = 1 ∨ j = 2 ∨ j = 3 := by omega
                  rcases h4 with rfl | rfl | rfl | rfl <;> (rw [World.cell?_alloc_new]; rfl)
                have HY2 : Hid (Wz.heap.size < (Wz.alloc (Obj.cells #[Value.int IntKind.u32 (Z 0), Value.int IntKind.u32 (Z 1), Value.int IntKind.u32 (Z 2), Value.int IntKind.u32 (Z 3)] 25)).heap.size) := by show _ < _; rw [alloc_size']; omega
                have HY3 : Hid (Below W.heap.size W (Wz.alloc (Obj.cells #[Value.int IntKind.u32 (Z 0), Value.int IntKind.u32 (Z 1), Value.int IntKind.u32 (Z 2), Value.int IntKind.u32 (Z 3)] 25))) := HBz.out.alloc HBz.out.size _
                generalize Wz.alloc (Obj.cells #[Value.int IntKind.u32 (Z 0), Value.int IntKind.u32 (Z 1), Value.int IntKind.u32 (Z 2), Value.int IntKind.u32 (Z 3)] 25) = Y at *
                generalize Wz.heap.size = Gz at *
                clear HBz
                go_loopw [93] (fun i wx => ∃ l : Nat, l ≤ 4 ∧ i = .int .i64 l ∧ Below Y.heap.size Y wx) (fun i _ => 4 - (intOf i).toNat)
                case atStart => exact ⟨0, Nat.zero_le _, rfl, Below.refl _ _⟩
                case round =>
                  obtain ⟨l, hl, rfl, hb⟩ := hrel
                  have hx : Hid (∀ v, Below Y.heap.size Y v → Below W.heap.size W v) := fun v h => HY3.out.trans (h.mono HY3.out.size)
                  by_cases hl4 : l < 4
                  · have hcl : wr.cell? ⟨Gz, l, none⟩ = some (.int .u32 (Z l)) := (hb.cell HY2.out).trans (HZ.out l hl4)
                    have hl4' : (l : Int) < 4 := by omega
                    generalize Z l = z at *
                    clear HZ hl
                    have F1 : Hid _ := fun (v : World) (h : Below Y.heap.size Y v) => (find_c _ n c R p z p0 p1 v (HL.out.below (hx.out v h) (Nat.le_refl _))).mono (fun e w' ⟨h1, h2⟩ => (⟨h1, h.trans (h2.mono h.size)⟩ : _ ∧ Below Y.heap.size Y w'))
                    have F2 : Hid _ := fun (v : World) (h : Below Y.heap.size Y v) => (rfind_c _ n c R p z p0 p1 v hN (HL.out.below (hx.out v h) (Nat.le_refl _))).mono (fun e w' ⟨h1, h2⟩ => (⟨h1, h.trans (h2.mono h.size)⟩ : _ ∧ Below Y.heap.size Y w'))
                    have M1 : Hid _ := fun (v : World) (h : Below Y.heap.size Y v) => (may_c _ n c R p z p0 p1 wri v (HL.out.below (hx.out v h) (Nat.le_refl _))).mono (fun e w' ⟨h1, h2⟩ => (⟨h1, h.trans (h2.mono h.size)⟩ : _ ∧ Below Y.heap.size Y w'))
                    have M2 : Hid _ := fun (v : World) (h : Below Y.heap.size Y v) => (rmay_c _ n c R p z p0 p1 wri v hN (HL.out.below (hx.out v h) (Nat.le_refl _))).mono (fun e w' ⟨h1, h2⟩ => (⟨h1, h.trans (h2.mono h.size)⟩ : _ ∧ Below Y.heap.size Y w'))
                    have N1 : Hid _ := fun (v : World) (h : Below Y.heap.size Y v) => (may_c _ n c R p z p0 p1 (!wri) v (HL.out.below (hx.out v h) (Nat.le_refl _))).mono (fun e w' ⟨h1, h2⟩ => (⟨h1, h.trans (h2.mono h.size)⟩ : _ ∧ Below Y.heap.size Y w'))
                    have N2 : Hid _ := fun (v : World) (h : Below Y.heap.size Y v) => (rmay_c _ n c R p z p0 p1 (!wri) v hN (HL.out.below (hx.out v h) (Nat.le_refl _))).mono (fun e w' ⟨h1, h2⟩ => (⟨h1, h.trans (h2.mono h.size)⟩ : _ ∧ Below Y.heap.size Y w'))
                    have S1 : Hid _ := fun (v : World) (h : Below Y.heap.size Y v) => (secret_c _ n c R p z p0 p1 v (HL.out.below (hx.out v h) (Nat.le_refl _))).mono (fun e w' ⟨h1, h2⟩ => (⟨h1, h.trans (h2.mono h.size)⟩ : _ ∧ Below Y.heap.size Y w'))
                    have S2 : Hid _ := fun (v : World) (h : Below Y.heap.size Y v) => (rsecret_c _ n c R p z p0 p1 v hN (HL.out.below (hx.out v h) (Nat.le_refl _))).mono (fun e w' ⟨h1, h2⟩ => (⟨h1, h.trans (h2.mono h.size)⟩ : _ ∧ Below Y.heap.size Y w'))
                    have X1 : Hid _ := fun (v : World) (h : Below Y.heap.size Y v) => (fixed_c _ n c R p z p0 p1 v (HL.out.below (hx.out v h) (Nat.le_refl _))).mono (fun e w' ⟨h1, h2⟩ => (⟨h1, h.trans (h2.mono h.size)⟩ : _ ∧ Below Y.heap.size Y w'))
                    have X2 : Hid _ := fun (v : World) (h : Below Y.heap.size Y v) => (rfixed_c _ n c R p z p0 p1 v hN (HL.out.below (hx.out v h) (Nat.le_refl _))).mono (fun e w' ⟨h1, h2⟩ => (⟨h1, h.trans (h2.mono h.size)⟩ : _ ∧ Below Y.heap.size Y w'))
                    generalize (findS R n p z).getD 0 = fi at *
                    generalize (findS R n p z).isSome = fo at *
                    generalize mayS R n p z wri = mv at *
                    generalize mayS R n p z (!wri) = nv at *
                    generalize secretS R n p z = sv at *
                    generalize fixedS R n p z = xv at *
                    have HBW : Hid (Below Y.heap.size Y wr) := hb
                    clear hb
                    go_wp2_with fail
                    refine (F1.out _ HBW.out).mono ?_
                    rintro e w8 ⟨rfl, h8⟩
                    replace HBW : Hid (Below Y.heap.size Y w8) := h8
                    clear h8 F1
                    go_wp2_with fail
                    refine (F2.out _ HBW.out).mono ?_
                    rintro e w8 ⟨rfl, h8⟩
                    replace HBW : Hid (Below Y.heap.size Y w8) := h8
                    clear h8 F2
                    go_wp2_with fail
                    refine (M1.out _ HBW.out).mono ?_
                    rintro e w8 ⟨rfl, h8⟩
                    replace HBW : Hid (Below Y.heap.size Y w8) := h8
                    clear h8 M1
                    go_wp2_with fail
                    refine (M2.out _ HBW.out).mono ?_
                    rintro e w8 ⟨rfl, h8⟩
                    replace HBW : Hid (Below Y.heap.size Y w8) := h8
                    clear h8 M2
                    go_wp2_with fail
                    refine (N1.out _ HBW.out).mono ?_
                    rintro e w8 ⟨rfl, h8⟩
                    replace HBW : Hid (Below Y.heap.size Y w8) := h8
                    clear h8 N1
                    go_wp2_with fail
                    refine (N2.out _ HBW.out).mono ?_
                    rintro e w8 ⟨rfl, h8⟩
                    replace HBW : Hid (Below Y.heap.size Y w8) := h8
                    clear h8 N2
                    go_wp2_with fail
                    refine (S1.out _ HBW.out).mono ?_
                    rintro e w8 ⟨rfl, h8⟩
                    replace HBW : Hid (Below Y.heap.size Y w8) := h8
                    clear h8 S1
                    go_wp2_with fail
                    refine (S2.out _ HBW.out).mono ?_
                    rintro e w8 ⟨rfl, h8⟩
                    replace HBW : Hid (Below Y.heap.size Y w8) := h8
                    clear h8 S2
                    go_wp2_with fail
                    refine (X1.out _ HBW.out).mono ?_
                    rintro e w8 ⟨rfl, h8⟩
                    replace HBW : Hid (Below Y.heap.size Y w8) := h8
                    clear h8 X1
                    go_wp2_with fail
                    refine (X2.out _ HBW.out).mono ?_
                    rintro e w8 ⟨rfl, h8⟩
                    replace HBW : Hid (Below Y.heap.size Y w8) := h8
                    clear h8 X2
                    go_wp2
                    refine ⟨⟨l + 1, by omega, by simp, HBW.out⟩, ?_⟩
                    simp only [intOf]
                    omega
                  · have l4 : l = 4 := by omega
                    subst l4
                    have E1 : Hid _ := exec_c _ n c R p p0 p1 wr (HL.out.below (hx.out wr hb) (Nat.le_refl _))
                    have E2 : Hid _ := fun (v : World) (h : Below Y.heap.size Y v) => rexec_c _ n c R p p0 p1 v hN (HL.out.below (hx.out v h) (Nat.le_refl _))
                    generalize execS R n p = ev at *
                    have HBW : Hid (Below Y.heap.size Y wr) := hb
                    clear hb hl hl4 HZ
                    go_wp2_with fail
                    refine Calls.mono E1.out ?_
                    rintro e w8 ⟨rfl, h8⟩
                    replace HBW : Hid (Below Y.heap.size Y w8) := HBW.out.trans (h8.mono HBW.out.size)
                    clear h8 E1
                    go_wp2_with fail
                    refine (E2.out _ HBW.out).mono ?_
                    rintro e w9 ⟨rfl, h9⟩
                    have HBE : Hid (Below W.heap.size W w9) := hx.out _ (HBW.out.trans (h9.mono HBW.out.size))
                    clear h9 E2 HBW
                    go_wp2
                    refine ⟨⟨i + 1, by omega, by simp, HBE.out⟩, ?_⟩
                    simp only [intOf]
                    omega
              · have hii' : ¬ (i : Int) < n := by omega
                have p0 := ha0
                have p1 := ha1
                have HBz : Hid (Below W.heap.size W wr) := hb
                clear hb hm
                go_wp2_with fail
                obtain ⟨Z, hZ⟩ : ∃ Z : Nat → Int, #[Value.int IntKind.u32 s, Value.int IntKind.u32 1, Value.int IntKind.u32 2, Value.int IntKind.u32 4] = #[Value.int IntKind.u32 (Z 0), Value.int IntKind.u32 (Z 1), Value.int IntKind.u32 (Z 2), Value.int IntKind.u32 (Z 3)] := ⟨fun j => match j with | 0 => s | 1 => 1 | 2 => 2 | _ => 4, rfl⟩
                rw [hZ]
                clear hZ
                have HZ : Hid (∀ j, j < 4 → (wr.alloc (Obj.cells #[Value.int IntKind.u32 (Z 0), Value.int IntKind.u32 (Z 1), Value.int IntKind.u32 (Z 2), Value.int IntKind.u32 (Z 3)] 25)).cell? ⟨wr.heap.size, j, none⟩ = some (.int .u32 (Z j))) := fun j hj => by
                  have h4 : j = 0 ∨ j = 1 ∨ j = 2 ∨ j = 3 := by omega
                  rcases h4 with rfl | rfl | rfl | rfl <;> (rw [World.cell?_alloc_new]; rfl)
                have HY2 : Hid (wr.heap.size < (wr.alloc (Obj.cells #[Value.int IntKind.u32 (Z 0), Value.int IntKind.u32 (Z 1), Value.int IntKind.u32 (Z 2), Value.int IntKind.u32 (Z 3)] 25)).heap.size) := by show _ < _; rw [alloc_size']; omega
                have HY3 : Hid (Below W.heap.size W (wr.alloc (Obj.cells #[Value.int IntKind.u32 (Z 0), Value.int IntKind.u32 (Z 1), Value.int IntKind.u32 (Z 2), Value.int IntKind.u32 (Z 3)] 25))) := HBz.out.alloc HBz.out.size _
                generalize wr.alloc (Obj.cells #[Value.int IntKind.u32 (Z 0), Value.int IntKind.u32 (Z 1), Value.int IntKind.u32 (Z 2), Value.int IntKind.u32 (Z 3)] 25) = Y at *
                generalize wr.heap.size = Gz at *
                clear HBz
                go_loopw [93] (fun i wx => ∃ l : Nat, l ≤ 4 ∧ i = .int .i64 l ∧ Below Y.heap.size Y wx) (fun i _ => 4 - (intOf i).toNat)
                case atStart => exact ⟨0, Nat.zero_le _, rfl, Below.refl _ _⟩
                case round =>
                  obtain ⟨l, hl, rfl, hb⟩ := hrel
                  have hx : Hid (∀ v, Below Y.heap.size Y v → Below W.heap.size W v) := fun v h => HY3.out.trans (h.mono HY3.out.size)
                  by_cases hl4 : l < 4
                  · have hcl : wr.cell? ⟨Gz, l, none⟩ = some (.int .u32 (Z l)) := (hb.cell HY2.out).trans (HZ.out l hl4)
                    have hl4' : (l : Int) < 4 := by omega
                    generalize Z l = z at *
                    clear HZ hl
                    have F1 : Hid _ := fun (v : World) (h : Below Y.heap.size Y v) => (find_c _ n c R a z p0 p1 v (HL.out.below (hx.out v h) (Nat.le_refl _))).mono (fun e w' ⟨h1, h2⟩ => (⟨h1, h.trans (h2.mono h.size)⟩ : _ ∧ Below Y.heap.size Y w'))
                    have F2 : Hid _ := fun (v : World) (h : Below Y.heap.size Y v) => (rfind_c _ n c R a z p0 p1 v hN (HL.out.below (hx.out v h) (Nat.le_refl _))).mono (fun e w' ⟨h1, h2⟩ => (⟨h1, h.trans (h2.mono h.size)⟩ : _ ∧ Below Y.heap.size Y w'))
                    have M1 : Hid _ := fun (v : World) (h : Below Y.heap.size Y v) => (may_c _ n c R a z p0 p1 wri v (HL.out.below (hx.out v h) (Nat.le_refl _))).mono (fun e w' ⟨h1, h2⟩ => (⟨h1, h.trans (h2.mono h.size)⟩ : _ ∧ Below Y.heap.size Y w'))
                    have M2 : Hid _ := fun (v : World) (h : Below Y.heap.size Y v) => (rmay_c _ n c R a z p0 p1 wri v hN (HL.out.below (hx.out v h) (Nat.le_refl _))).mono (fun e w' ⟨h1, h2⟩ => (⟨h1, h.trans (h2.mono h.size)⟩ : _ ∧ Below Y.heap.size Y w'))
                    have N1 : Hid _ := fun (v : World) (h : Below Y.heap.size Y v) => (may_c _ n c R a z p0 p1 (!wri) v (HL.out.below (hx.out v h) (Nat.le_refl _))).mono (fun e w' ⟨h1, h2⟩ => (⟨h1, h.trans (h2.mono h.size)⟩ : _ ∧ Below Y.heap.size Y w'))
                    have N2 : Hid _ := fun (v : World) (h : Below Y.heap.size Y v) => (rmay_c _ n c R a z p0 p1 (!wri) v hN (HL.out.below (hx.out v h) (Nat.le_refl _))).mono (fun e w' ⟨h1, h2⟩ => (⟨h1, h.trans (h2.mono h.size)⟩ : _ ∧ Below Y.heap.size Y w'))
                    have S1 : Hid _ := fun (v : World) (h : Below Y.heap.size Y v) => (secret_c _ n c R a z p0 p1 v (HL.out.below (hx.out v h) (Nat.le_refl _))).mono (fun e w' ⟨h1, h2⟩ => (⟨h1, h.trans (h2.mono h.size)⟩ : _ ∧ Below Y.heap.size Y w'))
                    have S2 : Hid _ := fun (v : World) (h : Below Y.heap.size Y v) => (rsecret_c _ n c R a z p0 p1 v hN (HL.out.below (hx.out v h) (Nat.le_refl _))).mono (fun e w' ⟨h1, h2⟩ => (⟨h1, h.trans (h2.mono h.size)⟩ : _ ∧ Below Y.heap.size Y w'))
                    have X1 : Hid _ := fun (v : World) (h : Below Y.heap.size Y v) => (fixed_c _ n c R a z p0 p1 v (HL.out.below (hx.out v h) (Nat.le_refl _))).mono (fun e w' ⟨h1, h2⟩ => (⟨h1, h.trans (h2.mono h.size)⟩ : _ ∧ Below Y.heap.size Y w'))
                    have X2 : Hid _ := fun (v : World) (h : Below Y.heap.size Y v) => (rfixed_c _ n c R a z p0 p1 v hN (HL.out.below (hx.out v h) (Nat.le_refl _))).mono (fun e w' ⟨h1, h2⟩ => (⟨h1, h.trans (h2.mono h.size)⟩ : _ ∧ Below Y.heap.size Y w'))
                    generalize (findS R n a z).getD 0 = fi at *
                    generalize (findS R n a z).isSome = fo at *
                    generalize mayS R n a z wri = mv at *
                    generalize mayS R n a z (!wri) = nv at *
                    generalize secretS R n a z = sv at *
                    generalize fixedS R n a z = xv at *
                    have HBW : Hid (Below Y.heap.size Y wr) := hb
                    clear hb
                    go_wp2_with fail
                    refine (F1.out _ HBW.out).mono ?_
                    rintro e w8 ⟨rfl, h8⟩
                    replace HBW : Hid (Below Y.heap.size Y w8) := h8
                    clear h8 F1
                    go_wp2_with fail
                    refine (F2.out _ HBW.out).mono ?_
                    rintro e w8 ⟨rfl, h8⟩
                    replace HBW : Hid (Below Y.heap.size Y w8) := h8
                    clear h8 F2
                    go_wp2_with fail
                    refine (M1.out _ HBW.out).mono ?_
                    rintro e w8 ⟨rfl, h8⟩
                    replace HBW : Hid (Below Y.heap.size Y w8) := h8
                    clear h8 M1
                    go_wp2_with fail
                    refine (M2.out _ HBW.out).mono ?_
                    rintro e w8 ⟨rfl, h8⟩
                    replace HBW : Hid (Below Y.heap.size Y w8) := h8
                    clear h8 M2
                    go_wp2_with fail
                    refine (N1.out _ HBW.out).mono ?_
                    rintro e w8 ⟨rfl, h8⟩
                    replace HBW : Hid (Below Y.heap.size Y w8) := h8
                    clear h8 N1
                    go_wp2_with fail
                    refine (N2.out _ HBW.out).mono ?_
                    rintro e w8 ⟨rfl, h8⟩
                    replace HBW : Hid (Below Y.heap.size Y w8) := h8
                    clear h8 N2
                    go_wp2_with fail
                    refine (S1.out _ HBW.out).mono ?_
                    rintro e w8 ⟨rfl, h8⟩
                    replace HBW : Hid (Below Y.heap.size Y w8) := h8
                    clear h8 S1
                    go_wp2_with fail
                    refine (S2.out _ HBW.out).mono ?_
                    rintro e w8 ⟨rfl, h8⟩
                    replace HBW : Hid (Below Y.heap.size Y w8) := h8
                    clear h8 S2
                    go_wp2_with fail
                    refine (X1.out _ HBW.out).mono ?_
                    rintro e w8 ⟨rfl, h8⟩
                    replace HBW : Hid (Below Y.heap.size Y w8) := h8
                    clear h8 X1
                    go_wp2_with fail
                    refine (X2.out _ HBW.out).mono ?_
                    rintro e w8 ⟨rfl, h8⟩
                    replace HBW : Hid (Below Y.heap.size Y w8) := h8
                    clear h8 X2
                    go_wp2
                    refine ⟨⟨l + 1, by omega, by simp, HBW.out⟩, ?_⟩
                    simp only [intOf]
                    omega
                  · have l4 : l = 4 := by omega
                    subst l4
                    have E1 : Hid _ := exec_c _ n c R a p0 p1 wr (HL.out.below (hx.out wr hb) (Nat.le_refl _))
                    have E2 : Hid _ := fun (v : World) (h : Below Y.heap.size Y v) => rexec_c _ n c R a p0 p1 v hN (HL.out.below (hx.out v h) (Nat.le_refl _))
                    generalize execS R n a = ev at *
                    have HBW : Hid (Below Y.heap.size Y wr) := hb
                    clear hb hl hl4 HZ
                    go_wp2_with fail
                    refine Calls.mono E1.out ?_
                    rintro e w8 ⟨rfl, h8⟩
                    replace HBW : Hid (Below Y.heap.size Y w8) := HBW.out.trans (h8.mono HBW.out.size)
                    clear h8 E1
                    go_wp2_with fail
                    refine (E2.out _ HBW.out).mono ?_
                    rintro e w9 ⟨rfl, h9⟩
                    have HBE : Hid (Below W.heap.size W w9) := hx.out _ (HBW.out.trans (h9.mono HBW.out.size))
                    clear h9 E2 HBW
                    go_wp2
                    refine ⟨⟨i + 1, by omega, by simp, HBE.out⟩, ?_⟩
                    simp only [intOf]
                    omega
            · have ie : i = n + 1 := by omega
              subst ie
              have hin' : ¬ ((n + 1 : Nat) : Int) < n + 1 := by omega
              have HBE : Hid _ := hb
              clear hb hi hin
              go_wp2
              refine ⟨⟨j + 1, by omega, by simp, HBE.out⟩, ?_⟩
              simp only [intOf]
              omega
        · have j3 : j = 3 := by omega
          subst j3
          have HBE : Hid (Below w.heap.size w wr) := HB4.out.trans (hb.mono HB4.out.size)
          clear hb hj hj3
          go_wp2
          go_ret
          exact ⟨rfl, HBE.out⟩
end Go.Proofs.Ytfeebbeailmieaa
