/- touch, walked. -/
import Derived.Test.YtjhmmfpmmgebjaaGreatVf
namespace Go.Proofs.YtjhmmfpmmgebjaaGreat
open Go.ChangeShapes Go.WideShapes Go.ChangeAt Go.RowKit
set_option linter.unusedVariables false
set_option linter.unusedSimpArgs false

theorem SH.call {w0 w w1 : World} {L : List (Nat × Cel)} {pm l0 lo hi : Nat} {Bs : List Reg} {G D D' : List (List Int)} {q : Nat → Nat} (S : SH (memZ pm l0 lo hi Bs G D q) w0 w L) (h1 : MemAt w1 pm l0 lo hi Bs G D' q) (h2 : Mid lo hi w w1) : SH (memZ pm l0 lo hi Bs G D' q) w0 w1 L :=
  (S.toFree.freeMid h2).join (M := memZ pm l0 lo hi Bs G D' q) (memZ_ok _ _ _ _ _ _ _ _) h1
theorem SH.l0le {w0 w : World} {L : List (Nat × Cel)} {pm l0 lo hi : Nat} {Bs : List Reg} {G D : List (List Int)} {q : Nat → Nat} (S : SH (memZ pm l0 lo hi Bs G D q) w0 w L) : l0 ≤ w.heap.size := by
  rcases Nat.lt_or_ge w.heap.size l0 with h | h
  · exact absurd (S.zb w.heap.size (.inl h)) (Nat.lt_irrefl _)
  · exact h
set_option maxHeartbeats 4000000 in
set_option maxRecDepth 100000 in
theorem touch_22a (R : List Int) (v : Value) (p : Int) (h : HV) (hop : h.op = 22) (ho : HOk h) (hR : okR R) (hv : v.oneCell' = true) (p0 : -4611686018427387904 ≤ p) (p1 : p ≤ 4611686018427387904)
    {pm l0 lo hi : Nat} {Bs : List Reg} {G D : List (List Int)} {q : Nat → Nat} (w : World) (hM : MemAt w pm l0 lo hi Bs G D q) (hl0 : l0 ≤ w.heap.size) (her : ldErr Bs h R = 0) :
    Calls Tryz.prog 25 #[(Cel.res R v 0 p).val, (Cel.host h).val, .pointer (some ⟨pm, 0, none⟩)] w fun en w' => en = .returned (.tuple #[(Cel.res (R.set h.d.toNat (ldGot Bs D h R)) v 0 (p + 1)).val, .bool true]) ∧ MemAt w' pm l0 lo hi Bs G D q ∧ Mid lo hi w w' := by
  have S := SH.mem hM hl0
  have hR32 := hR.1
  have hop0 : (Cel.host h).cells[0]? = some (.int .i64 22) := by simp [Cel.cells, hop]
  have C : Hid (∀ w1, MemAt w1 pm l0 lo hi Bs G D q → l0 ≤ w1.heap.size → Calls Tryz.prog 72 #[(Cel.res R v 0 p).val, (Cel.host h).val, .pointer (some ⟨pm, 0, none⟩)] w1 fun en w' => en = .returned (.tuple #[(Cel.res (R.set h.d.toNat (ldGot Bs D h R)) v 0 (p + 1)).val, .bool true]) ∧ MemAt w' pm l0 lo hi Bs G D q ∧ Mid lo hi w1 w') := fun w1 m1 m2 => by
    have := hload_w R v p h ho hR hv p0 p1 w1 m1 m2 0 her
    simpa using this
  have hlS : (R.set h.d.toNat (ldGot Bs D h R)).length = 32 := by simp [hR32]
  clear ho hR hM her hop
  generalize R.set h.d.toNat (ldGot Bs D h R) = R2 at *
  go_enter Tryz.func25, Tryz.ntmps25
  go_wp2_with (first
    | (refine S.box rfl _ _ rfl (Cel.res R v 0 p) rfl ?_; clear S; intro b1 w1 S)
    | (refine S.box rfl _ _ rfl (Cel.host h) rfl ?_; clear S; intro b2 w2 S)
    | (refine S.alloc rfl 49 rfl _ zeroRes ?_; clear S; intro b3 w3 S)
    | (refine S.load1 rfl 3 _ rfl _ 0 rfl 1 (Cel.host h) rfl _ hop0 _ Tryz.underlying3 rfl ?_)
    | (refine S.load1 rfl 26 _ rfl _ 5 rfl 1 (Cel.host h) rfl _ rfl _ Tryz.underlying26 rfl ?_)
    | (refine S.loadAll rfl 49 _ rfl _ rfl 2 (Cel.res R v 0 p) rfl _ Tryz.underlying49 rfl (by rw [res_length hR32]; exact szRes) ?_)
    | (refine S.loadAll rfl 31 _ rfl _ rfl 1 (Cel.host h) rfl _ Tryz.underlying31 rfl szHost ?_)
    | (refine (C.out _ S.inv S.l0le).mono ?_; rintro e w9 ⟨rfl, hm9, hw9⟩; replace S := S.call hm9 hw9; clear hm9 hw9)
    | (refine S.storeAll rfl 49 _ _ rfl _ (Cel.res R2 v 0 (p + 1)) rfl rfl 0 _ rfl (by rw [res_length hlS, res_length (by simp)]) (one_res hv) (by rw [res_length hlS]; exact szRes) ?_; clear S; intro w S; simp only [List.set_cons_zero, List.set_cons_succ] at S))
  refine bodyPost_ret (S.results2 rfl _ _ rfl 0 _ rfl _ Tryz.underlying49 rfl (by rw [res_length hlS]; exact szRes)) rfl ?_
  exact ⟨rfl, S.inv, S.mid⟩
set_option maxHeartbeats 4000000 in
set_option maxRecDepth 100000 in
theorem touch_22b (R : List Int) (v : Value) (p : Int) (h : HV) (hop : h.op = 22) (ho : HOk h) (hR : okR R) (hv : v.oneCell' = true) (p0 : -4611686018427387904 ≤ p) (p1 : p ≤ 4611686018427387904)
    {pm l0 lo hi : Nat} {Bs : List Reg} {G D : List (List Int)} {q : Nat → Nat} (w : World) (hM : MemAt w pm l0 lo hi Bs G D q) (hl0 : l0 ≤ w.heap.size) (er : Int) (her : ldErr Bs h R = er) (hne : er ≠ 0) :
    Calls Tryz.prog 25 #[(Cel.res R v 0 p).val, (Cel.host h).val, .pointer (some ⟨pm, 0, none⟩)] w fun en w' => en = .returned (.tuple #[(Cel.res R v er p).val, .bool false]) ∧ MemAt w' pm l0 lo hi Bs G D q ∧ Mid lo hi w w' := by
  have S := SH.mem hM hl0
  have hR32 := hR.1
  have hop0 : (Cel.host h).cells[0]? = some (.int .i64 22) := by simp [Cel.cells, hop]
  have C : Hid (∀ w1, MemAt w1 pm l0 lo hi Bs G D q → l0 ≤ w1.heap.size → Calls Tryz.prog 72 #[(Cel.res R v 0 p).val, (Cel.host h).val, .pointer (some ⟨pm, 0, none⟩)] w1 fun en w' => en = .returned (.tuple #[(Cel.res R v er p).val, .bool false]) ∧ MemAt w' pm l0 lo hi Bs G D q ∧ Mid lo hi w1 w') := fun w1 m1 m2 => by
    have := hload_w R v p h ho hR hv p0 p1 w1 m1 m2 er her
    simpa [hne] using this
  clear ho hR hM her hop hne
  go_enter Tryz.func25, Tryz.ntmps25
  go_wp2_with (first
    | (refine S.box rfl _ _ rfl (Cel.res R v 0 p) rfl ?_; clear S; intro b1 w1 S)
    | (refine S.box rfl _ _ rfl (Cel.host h) rfl ?_; clear S; intro b2 w2 S)
    | (refine S.alloc rfl 49 rfl _ zeroRes ?_; clear S; intro b3 w3 S)
    | (refine S.load1 rfl 3 _ rfl _ 0 rfl 1 (Cel.host h) rfl _ hop0 _ Tryz.underlying3 rfl ?_)
    | (refine S.load1 rfl 26 _ rfl _ 5 rfl 1 (Cel.host h) rfl _ rfl _ Tryz.underlying26 rfl ?_)
    | (refine S.loadAll rfl 49 _ rfl _ rfl 2 (Cel.res R v 0 p) rfl _ Tryz.underlying49 rfl (by rw [res_length hR32]; exact szRes) ?_)
    | (refine S.loadAll rfl 31 _ rfl _ rfl 1 (Cel.host h) rfl _ Tryz.underlying31 rfl szHost ?_)
    | (refine (C.out _ S.inv S.l0le).mono ?_; rintro e w9 ⟨rfl, hm9, hw9⟩; replace S := S.call hm9 hw9; clear hm9 hw9)
    | (refine S.storeAll rfl 49 _ _ rfl _ (Cel.res R v er p) rfl rfl 0 _ rfl (by rw [res_length hR32, res_length (by simp)]) (one_res hv) (by rw [res_length hR32]; exact szRes) ?_; clear S; intro w S; simp only [List.set_cons_zero, List.set_cons_succ] at S))
  refine bodyPost_ret (S.results2 rfl _ _ rfl 0 _ rfl _ Tryz.underlying49 rfl (by rw [res_length hR32]; exact szRes)) rfl ?_
  exact ⟨rfl, S.inv, S.mid⟩
set_option maxHeartbeats 4000000 in
set_option maxRecDepth 100000 in
theorem touch_23a (R : List Int) (v : Value) (p : Int) (h : HV) (hop : h.op = 23) (ho : HOk h) (hR : okR R) (hv : v.oneCell' = true) (p0 : -4611686018427387904 ≤ p) (p1 : p ≤ 4611686018427387904)
    {pm l0 lo hi : Nat} {Bs : List Reg} {G D : List (List Int)} {q : Nat → Nat} (w : World) (hM : MemAt w pm l0 lo hi Bs G D q) (hl0 : l0 ≤ w.heap.size) (her : ldErr Bs h R = 0) :
    Calls Tryz.prog 25 #[(Cel.res R v 0 p).val, (Cel.host h).val, .pointer (some ⟨pm, 0, none⟩)] w fun en w' => en = .returned (.tuple #[(Cel.res (R.set h.d.toNat (ldGot Bs D h R)) v 0 (p + 1)).val, .bool true]) ∧ MemAt w' pm l0 lo hi Bs G D q ∧ Mid lo hi w w' := by
  have S := SH.mem hM hl0
  have hR32 := hR.1
  have hop0 : (Cel.host h).cells[0]? = some (.int .i64 23) := by simp [Cel.cells, hop]
  have C : Hid (∀ w1, MemAt w1 pm l0 lo hi Bs G D q → l0 ≤ w1.heap.size → Calls Tryz.prog 72 #[(Cel.res R v 0 p).val, (Cel.host h).val, .pointer (some ⟨pm, 0, none⟩)] w1 fun en w' => en = .returned (.tuple #[(Cel.res (R.set h.d.toNat (ldGot Bs D h R)) v 0 (p + 1)).val, .bool true]) ∧ MemAt w' pm l0 lo hi Bs G D q ∧ Mid lo hi w1 w') := fun w1 m1 m2 => by
    have := hload_w R v p h ho hR hv p0 p1 w1 m1 m2 0 her
    simpa using this
  have hlS : (R.set h.d.toNat (ldGot Bs D h R)).length = 32 := by simp [hR32]
  clear ho hR hM her hop
  generalize R.set h.d.toNat (ldGot Bs D h R) = R2 at *
  go_enter Tryz.func25, Tryz.ntmps25
  go_wp2_with (first
    | (refine S.box rfl _ _ rfl (Cel.res R v 0 p) rfl ?_; clear S; intro b1 w1 S)
    | (refine S.box rfl _ _ rfl (Cel.host h) rfl ?_; clear S; intro b2 w2 S)
    | (refine S.alloc rfl 49 rfl _ zeroRes ?_; clear S; intro b3 w3 S)
    | (refine S.load1 rfl 3 _ rfl _ 0 rfl 1 (Cel.host h) rfl _ hop0 _ Tryz.underlying3 rfl ?_)
    | (refine S.load1 rfl 26 _ rfl _ 5 rfl 1 (Cel.host h) rfl _ rfl _ Tryz.underlying26 rfl ?_)
    | (refine S.loadAll rfl 49 _ rfl _ rfl 2 (Cel.res R v 0 p) rfl _ Tryz.underlying49 rfl (by rw [res_length hR32]; exact szRes) ?_)
    | (refine S.loadAll rfl 31 _ rfl _ rfl 1 (Cel.host h) rfl _ Tryz.underlying31 rfl szHost ?_)
    | (refine (C.out _ S.inv S.l0le).mono ?_; rintro e w9 ⟨rfl, hm9, hw9⟩; replace S := S.call hm9 hw9; clear hm9 hw9)
    | (refine S.storeAll rfl 49 _ _ rfl _ (Cel.res R2 v 0 (p + 1)) rfl rfl 0 _ rfl (by rw [res_length hlS, res_length (by simp)]) (one_res hv) (by rw [res_length hlS]; exact szRes) ?_; clear S; intro w S; simp only [List.set_cons_zero, List.set_cons_succ] at S))
  refine bodyPost_ret (S.results2 rfl _ _ rfl 0 _ rfl _ Tryz.underlying49 rfl (by rw [res_length hlS]; exact szRes)) rfl ?_
  exact ⟨rfl, S.inv, S.mid⟩
set_option maxHeartbeats 4000000 in
set_option maxRecDepth 100000 in
theorem touch_23b (R : List Int) (v : Value) (p : Int) (h : HV) (hop : h.op = 23) (ho : HOk h) (hR : okR R) (hv : v.oneCell' = true) (p0 : -4611686018427387904 ≤ p) (p1 : p ≤ 4611686018427387904)
    {pm l0 lo hi : Nat} {Bs : List Reg} {G D : List (List Int)} {q : Nat → Nat} (w : World) (hM : MemAt w pm l0 lo hi Bs G D q) (hl0 : l0 ≤ w.heap.size) (er : Int) (her : ldErr Bs h R = er) (hne : er ≠ 0) :
    Calls Tryz.prog 25 #[(Cel.res R v 0 p).val, (Cel.host h).val, .pointer (some ⟨pm, 0, none⟩)] w fun en w' => en = .returned (.tuple #[(Cel.res R v er p).val, .bool false]) ∧ MemAt w' pm l0 lo hi Bs G D q ∧ Mid lo hi w w' := by
  have S := SH.mem hM hl0
  have hR32 := hR.1
  have hop0 : (Cel.host h).cells[0]? = some (.int .i64 23) := by simp [Cel.cells, hop]
  have C : Hid (∀ w1, MemAt w1 pm l0 lo hi Bs G D q → l0 ≤ w1.heap.size → Calls Tryz.prog 72 #[(Cel.res R v 0 p).val, (Cel.host h).val, .pointer (some ⟨pm, 0, none⟩)] w1 fun en w' => en = .returned (.tuple #[(Cel.res R v er p).val, .bool false]) ∧ MemAt w' pm l0 lo hi Bs G D q ∧ Mid lo hi w1 w') := fun w1 m1 m2 => by
    have := hload_w R v p h ho hR hv p0 p1 w1 m1 m2 er her
    simpa [hne] using this
  clear ho hR hM her hop hne
  go_enter Tryz.func25, Tryz.ntmps25
  go_wp2_with (first
    | (refine S.box rfl _ _ rfl (Cel.res R v 0 p) rfl ?_; clear S; intro b1 w1 S)
    | (refine S.box rfl _ _ rfl (Cel.host h) rfl ?_; clear S; intro b2 w2 S)
    | (refine S.alloc rfl 49 rfl _ zeroRes ?_; clear S; intro b3 w3 S)
    | (refine S.load1 rfl 3 _ rfl _ 0 rfl 1 (Cel.host h) rfl _ hop0 _ Tryz.underlying3 rfl ?_)
    | (refine S.load1 rfl 26 _ rfl _ 5 rfl 1 (Cel.host h) rfl _ rfl _ Tryz.underlying26 rfl ?_)
    | (refine S.loadAll rfl 49 _ rfl _ rfl 2 (Cel.res R v 0 p) rfl _ Tryz.underlying49 rfl (by rw [res_length hR32]; exact szRes) ?_)
    | (refine S.loadAll rfl 31 _ rfl _ rfl 1 (Cel.host h) rfl _ Tryz.underlying31 rfl szHost ?_)
    | (refine (C.out _ S.inv S.l0le).mono ?_; rintro e w9 ⟨rfl, hm9, hw9⟩; replace S := S.call hm9 hw9; clear hm9 hw9)
    | (refine S.storeAll rfl 49 _ _ rfl _ (Cel.res R v er p) rfl rfl 0 _ rfl (by rw [res_length hR32, res_length (by simp)]) (one_res hv) (by rw [res_length hR32]; exact szRes) ?_; clear S; intro w S; simp only [List.set_cons_zero, List.set_cons_succ] at S))
  refine bodyPost_ret (S.results2 rfl _ _ rfl 0 _ rfl _ Tryz.underlying49 rfl (by rw [res_length hR32]; exact szRes)) rfl ?_
  exact ⟨rfl, S.inv, S.mid⟩
set_option maxHeartbeats 4000000 in
set_option maxRecDepth 100000 in
theorem touch_24a (R : List Int) (v : Value) (p : Int) (h : HV) (hop : h.op = 24) (ho : HOk h) (hR : okR R) (hv : v.oneCell' = true) (p0 : -4611686018427387904 ≤ p) (p1 : p ≤ 4611686018427387904)
    {pm l0 lo hi : Nat} {Bs : List Reg} {G D : List (List Int)} {q : Nat → Nat} (w : World) (hM : MemAt w pm l0 lo hi Bs G D q) (hl0 : l0 ≤ w.heap.size) (her : ldErr Bs h R = 0) :
    Calls Tryz.prog 25 #[(Cel.res R v 0 p).val, (Cel.host h).val, .pointer (some ⟨pm, 0, none⟩)] w fun en w' => en = .returned (.tuple #[(Cel.res (R.set h.d.toNat (ldGot Bs D h R)) v 0 (p + 1)).val, .bool true]) ∧ MemAt w' pm l0 lo hi Bs G D q ∧ Mid lo hi w w' := by
  have S := SH.mem hM hl0
  have hR32 := hR.1
  have hop0 : (Cel.host h).cells[0]? = some (.int .i64 24) := by simp [Cel.cells, hop]
  have C : Hid (∀ w1, MemAt w1 pm l0 lo hi Bs G D q → l0 ≤ w1.heap.size → Calls Tryz.prog 72 #[(Cel.res R v 0 p).val, (Cel.host h).val, .pointer (some ⟨pm, 0, none⟩)] w1 fun en w' => en = .returned (.tuple #[(Cel.res (R.set h.d.toNat (ldGot Bs D h R)) v 0 (p + 1)).val, .bool true]) ∧ MemAt w' pm l0 lo hi Bs G D q ∧ Mid lo hi w1 w') := fun w1 m1 m2 => by
    have := hload_w R v p h ho hR hv p0 p1 w1 m1 m2 0 her
    simpa using this
  have hlS : (R.set h.d.toNat (ldGot Bs D h R)).length = 32 := by simp [hR32]
  clear ho hR hM her hop
  generalize R.set h.d.toNat (ldGot Bs D h R) = R2 at *
  go_enter Tryz.func25, Tryz.ntmps25
  go_wp2_with (first
    | (refine S.box rfl _ _ rfl (Cel.res R v 0 p) rfl ?_; clear S; intro b1 w1 S)
    | (refine S.box rfl _ _ rfl (Cel.host h) rfl ?_; clear S; intro b2 w2 S)
    | (refine S.alloc rfl 49 rfl _ zeroRes ?_; clear S; intro b3 w3 S)
    | (refine S.load1 rfl 3 _ rfl _ 0 rfl 1 (Cel.host h) rfl _ hop0 _ Tryz.underlying3 rfl ?_)
    | (refine S.load1 rfl 26 _ rfl _ 5 rfl 1 (Cel.host h) rfl _ rfl _ Tryz.underlying26 rfl ?_)
    | (refine S.loadAll rfl 49 _ rfl _ rfl 2 (Cel.res R v 0 p) rfl _ Tryz.underlying49 rfl (by rw [res_length hR32]; exact szRes) ?_)
    | (refine S.loadAll rfl 31 _ rfl _ rfl 1 (Cel.host h) rfl _ Tryz.underlying31 rfl szHost ?_)
    | (refine (C.out _ S.inv S.l0le).mono ?_; rintro e w9 ⟨rfl, hm9, hw9⟩; replace S := S.call hm9 hw9; clear hm9 hw9)
    | (refine S.storeAll rfl 49 _ _ rfl _ (Cel.res R2 v 0 (p + 1)) rfl rfl 0 _ rfl (by rw [res_length hlS, res_length (by simp)]) (one_res hv) (by rw [res_length hlS]; exact szRes) ?_; clear S; intro w S; simp only [List.set_cons_zero, List.set_cons_succ] at S))
  refine bodyPost_ret (S.results2 rfl _ _ rfl 0 _ rfl _ Tryz.underlying49 rfl (by rw [res_length hlS]; exact szRes)) rfl ?_
  exact ⟨rfl, S.inv, S.mid⟩
set_option maxHeartbeats 4000000 in
set_option maxRecDepth 100000 in
theorem touch_24b (R : List Int) (v : Value) (p : Int) (h : HV) (hop : h.op = 24) (ho : HOk h) (hR : okR R) (hv : v.oneCell' = true) (p0 : -4611686018427387904 ≤ p) (p1 : p ≤ 4611686018427387904)
    {pm l0 lo hi : Nat} {Bs : List Reg} {G D : List (List Int)} {q : Nat → Nat} (w : World) (hM : MemAt w pm l0 lo hi Bs G D q) (hl0 : l0 ≤ w.heap.size) (er : Int) (her : ldErr Bs h R = er) (hne : er ≠ 0) :
    Calls Tryz.prog 25 #[(Cel.res R v 0 p).val, (Cel.host h).val, .pointer (some ⟨pm, 0, none⟩)] w fun en w' => en = .returned (.tuple #[(Cel.res R v er p).val, .bool false]) ∧ MemAt w' pm l0 lo hi Bs G D q ∧ Mid lo hi w w' := by
  have S := SH.mem hM hl0
  have hR32 := hR.1
  have hop0 : (Cel.host h).cells[0]? = some (.int .i64 24) := by simp [Cel.cells, hop]
  have C : Hid (∀ w1, MemAt w1 pm l0 lo hi Bs G D q → l0 ≤ w1.heap.size → Calls Tryz.prog 72 #[(Cel.res R v 0 p).val, (Cel.host h).val, .pointer (some ⟨pm, 0, none⟩)] w1 fun en w' => en = .returned (.tuple #[(Cel.res R v er p).val, .bool false]) ∧ MemAt w' pm l0 lo hi Bs G D q ∧ Mid lo hi w1 w') := fun w1 m1 m2 => by
    have := hload_w R v p h ho hR hv p0 p1 w1 m1 m2 er her
    simpa [hne] using this
  clear ho hR hM her hop hne
  go_enter Tryz.func25, Tryz.ntmps25
  go_wp2_with (first
    | (refine S.box rfl _ _ rfl (Cel.res R v 0 p) rfl ?_; clear S; intro b1 w1 S)
    | (refine S.box rfl _ _ rfl (Cel.host h) rfl ?_; clear S; intro b2 w2 S)
    | (refine S.alloc rfl 49 rfl _ zeroRes ?_; clear S; intro b3 w3 S)
    | (refine S.load1 rfl 3 _ rfl _ 0 rfl 1 (Cel.host h) rfl _ hop0 _ Tryz.underlying3 rfl ?_)
    | (refine S.load1 rfl 26 _ rfl _ 5 rfl 1 (Cel.host h) rfl _ rfl _ Tryz.underlying26 rfl ?_)
    | (refine S.loadAll rfl 49 _ rfl _ rfl 2 (Cel.res R v 0 p) rfl _ Tryz.underlying49 rfl (by rw [res_length hR32]; exact szRes) ?_)
    | (refine S.loadAll rfl 31 _ rfl _ rfl 1 (Cel.host h) rfl _ Tryz.underlying31 rfl szHost ?_)
    | (refine (C.out _ S.inv S.l0le).mono ?_; rintro e w9 ⟨rfl, hm9, hw9⟩; replace S := S.call hm9 hw9; clear hm9 hw9)
    | (refine S.storeAll rfl 49 _ _ rfl _ (Cel.res R v er p) rfl rfl 0 _ rfl (by rw [res_length hR32, res_length (by simp)]) (one_res hv) (by rw [res_length hR32]; exact szRes) ?_; clear S; intro w S; simp only [List.set_cons_zero, List.set_cons_succ] at S))
  refine bodyPost_ret (S.results2 rfl _ _ rfl 0 _ rfl _ Tryz.underlying49 rfl (by rw [res_length hR32]; exact szRes)) rfl ?_
  exact ⟨rfl, S.inv, S.mid⟩
set_option maxHeartbeats 4000000 in
set_option maxRecDepth 100000 in
theorem touch_25a (R : List Int) (v : Value) (p : Int) (h : HV) (hop : h.op = 25) (ho : HOk h) (hR : okR R) (hv : v.oneCell' = true) (p0 : -4611686018427387904 ≤ p) (p1 : p ≤ 4611686018427387904)
    {pm l0 lo hi : Nat} {Bs : List Reg} {G D : List (List Int)} {q : Nat → Nat} (w : World) (hM : MemAt w pm l0 lo hi Bs G D q) (hl0 : l0 ≤ w.heap.size) (her : stErr Bs h R = 0) :
    Calls Tryz.prog 25 #[(Cel.res R v 0 p).val, (Cel.host h).val, .pointer (some ⟨pm, 0, none⟩)] w fun en w' => en = .returned (.tuple #[(Cel.res R v 0 (p + 1)).val, .bool true]) ∧ MemAt w' pm l0 lo hi Bs G (stDat Bs D h R) q ∧ Mid lo hi w w' := by
  have S := SH.mem hM hl0
  have hR32 := hR.1
  have hop0 : (Cel.host h).cells[0]? = some (.int .i64 25) := by simp [Cel.cells, hop]
  have C : Hid (∀ w1, MemAt w1 pm l0 lo hi Bs G D q → l0 ≤ w1.heap.size → Calls Tryz.prog 73 #[(Cel.res R v 0 p).val, (Cel.host h).val, .pointer (some ⟨pm, 0, none⟩)] w1 fun en w' => en = .returned (.tuple #[(Cel.res R v 0 (p + 1)).val, .bool true]) ∧ MemAt w' pm l0 lo hi Bs G (stDat Bs D h R) q ∧ Mid lo hi w1 w') := fun w1 m1 m2 => by
    have := hstore_w R v p h ho hR hv p0 p1 w1 m1 m2 0 her _ rfl
    simpa using this
  clear ho hR hM her hop
  generalize stDat Bs D h R = D2 at *
  go_enter Tryz.func25, Tryz.ntmps25
  go_wp2_with (first
    | (refine S.box rfl _ _ rfl (Cel.res R v 0 p) rfl ?_; clear S; intro b1 w1 S)
    | (refine S.box rfl _ _ rfl (Cel.host h) rfl ?_; clear S; intro b2 w2 S)
    | (refine S.alloc rfl 49 rfl _ zeroRes ?_; clear S; intro b3 w3 S)
    | (refine S.load1 rfl 3 _ rfl _ 0 rfl 1 (Cel.host h) rfl _ hop0 _ Tryz.underlying3 rfl ?_)
    | (refine S.load1 rfl 26 _ rfl _ 5 rfl 1 (Cel.host h) rfl _ rfl _ Tryz.underlying26 rfl ?_)
    | (refine S.loadAll rfl 49 _ rfl _ rfl 2 (Cel.res R v 0 p) rfl _ Tryz.underlying49 rfl (by rw [res_length hR32]; exact szRes) ?_)
    | (refine S.loadAll rfl 31 _ rfl _ rfl 1 (Cel.host h) rfl _ Tryz.underlying31 rfl szHost ?_)
    | (refine (C.out _ S.inv S.l0le).mono ?_; rintro e w9 ⟨rfl, hm9, hw9⟩; replace S := S.call hm9 hw9; clear hm9 hw9)
    | (refine S.storeAll rfl 49 _ _ rfl _ (Cel.res R v 0 (p + 1)) rfl rfl 0 _ rfl (by rw [res_length hR32, res_length (by simp)]) (one_res hv) (by rw [res_length hR32]; exact szRes) ?_; clear S; intro w S; simp only [List.set_cons_zero, List.set_cons_succ] at S))
  refine bodyPost_ret (S.results2 rfl _ _ rfl 0 _ rfl _ Tryz.underlying49 rfl (by rw [res_length hR32]; exact szRes)) rfl ?_
  exact ⟨rfl, S.inv, S.mid⟩
set_option maxHeartbeats 4000000 in
set_option maxRecDepth 100000 in
theorem touch_25b (R : List Int) (v : Value) (p : Int) (h : HV) (hop : h.op = 25) (ho : HOk h) (hR : okR R) (hv : v.oneCell' = true) (p0 : -4611686018427387904 ≤ p) (p1 : p ≤ 4611686018427387904)
    {pm l0 lo hi : Nat} {Bs : List Reg} {G D : List (List Int)} {q : Nat → Nat} (w : World) (hM : MemAt w pm l0 lo hi Bs G D q) (hl0 : l0 ≤ w.heap.size) (er : Int) (her : stErr Bs h R = er) (hne : er ≠ 0) :
    Calls Tryz.prog 25 #[(Cel.res R v 0 p).val, (Cel.host h).val, .pointer (some ⟨pm, 0, none⟩)] w fun en w' => en = .returned (.tuple #[(Cel.res R v er p).val, .bool false]) ∧ MemAt w' pm l0 lo hi Bs G (stDat Bs D h R) q ∧ Mid lo hi w w' := by
  have S := SH.mem hM hl0
  have hR32 := hR.1
  have hop0 : (Cel.host h).cells[0]? = some (.int .i64 25) := by simp [Cel.cells, hop]
  have C : Hid (∀ w1, MemAt w1 pm l0 lo hi Bs G D q → l0 ≤ w1.heap.size → Calls Tryz.prog 73 #[(Cel.res R v 0 p).val, (Cel.host h).val, .pointer (some ⟨pm, 0, none⟩)] w1 fun en w' => en = .returned (.tuple #[(Cel.res R v er p).val, .bool false]) ∧ MemAt w' pm l0 lo hi Bs G (stDat Bs D h R) q ∧ Mid lo hi w1 w') := fun w1 m1 m2 => by
    have := hstore_w R v p h ho hR hv p0 p1 w1 m1 m2 er her _ rfl
    simpa [hne] using this
  clear ho hR hM her hop hne
  generalize stDat Bs D h R = D2 at *
  go_enter Tryz.func25, Tryz.ntmps25
  go_wp2_with (first
    | (refine S.box rfl _ _ rfl (Cel.res R v 0 p) rfl ?_; clear S; intro b1 w1 S)
    | (refine S.box rfl _ _ rfl (Cel.host h) rfl ?_; clear S; intro b2 w2 S)
    | (refine S.alloc rfl 49 rfl _ zeroRes ?_; clear S; intro b3 w3 S)
    | (refine S.load1 rfl 3 _ rfl _ 0 rfl 1 (Cel.host h) rfl _ hop0 _ Tryz.underlying3 rfl ?_)
    | (refine S.load1 rfl 26 _ rfl _ 5 rfl 1 (Cel.host h) rfl _ rfl _ Tryz.underlying26 rfl ?_)
    | (refine S.loadAll rfl 49 _ rfl _ rfl 2 (Cel.res R v 0 p) rfl _ Tryz.underlying49 rfl (by rw [res_length hR32]; exact szRes) ?_)
    | (refine S.loadAll rfl 31 _ rfl _ rfl 1 (Cel.host h) rfl _ Tryz.underlying31 rfl szHost ?_)
    | (refine (C.out _ S.inv S.l0le).mono ?_; rintro e w9 ⟨rfl, hm9, hw9⟩; replace S := S.call hm9 hw9; clear hm9 hw9)
    | (refine S.storeAll rfl 49 _ _ rfl _ (Cel.res R v er p) rfl rfl 0 _ rfl (by rw [res_length hR32, res_length (by simp)]) (one_res hv) (by rw [res_length hR32]; exact szRes) ?_; clear S; intro w S; simp only [List.set_cons_zero, List.set_cons_succ] at S))
  refine bodyPost_ret (S.results2 rfl _ _ rfl 0 _ rfl _ Tryz.underlying49 rfl (by rw [res_length hR32]; exact szRes)) rfl ?_
  exact ⟨rfl, S.inv, S.mid⟩
set_option maxHeartbeats 4000000 in
set_option maxRecDepth 100000 in
theorem touch_26a (R : List Int) (v : Value) (p : Int) (h : HV) (hop : h.op = 26) (ho : HOk h) (hR : okR R) (hv : v.oneCell' = true) (p0 : -4611686018427387904 ≤ p) (p1 : p ≤ 4611686018427387904)
    {pm l0 lo hi : Nat} {Bs : List Reg} {G D : List (List Int)} {q : Nat → Nat} (w : World) (hM : MemAt w pm l0 lo hi Bs G D q) (hl0 : l0 ≤ w.heap.size) (her : stErr Bs h R = 0) :
    Calls Tryz.prog 25 #[(Cel.res R v 0 p).val, (Cel.host h).val, .pointer (some ⟨pm, 0, none⟩)] w fun en w' => en = .returned (.tuple #[(Cel.res R v 0 (p + 1)).val, .bool true]) ∧ MemAt w' pm l0 lo hi Bs G (stDat Bs D h R) q ∧ Mid lo hi w w' := by
  have S := SH.mem hM hl0
  have hR32 := hR.1
  have hop0 : (Cel.host h).cells[0]? = some (.int .i64 26) := by simp [Cel.cells, hop]
  have C : Hid (∀ w1, MemAt w1 pm l0 lo hi Bs G D q → l0 ≤ w1.heap.size → Calls Tryz.prog 73 #[(Cel.res R v 0 p).val, (Cel.host h).val, .pointer (some ⟨pm, 0, none⟩)] w1 fun en w' => en = .returned (.tuple #[(Cel.res R v 0 (p + 1)).val, .bool true]) ∧ MemAt w' pm l0 lo hi Bs G (stDat Bs D h R) q ∧ Mid lo hi w1 w') := fun w1 m1 m2 => by
    have := hstore_w R v p h ho hR hv p0 p1 w1 m1 m2 0 her _ rfl
    simpa using this
  clear ho hR hM her hop
  generalize stDat Bs D h R = D2 at *
  go_enter Tryz.func25, Tryz.ntmps25
  go_wp2_with (first
    | (refine S.box rfl _ _ rfl (Cel.res R v 0 p) rfl ?_; clear S; intro b1 w1 S)
    | (refine S.box rfl _ _ rfl (Cel.host h) rfl ?_; clear S; intro b2 w2 S)
    | (refine S.alloc rfl 49 rfl _ zeroRes ?_; clear S; intro b3 w3 S)
    | (refine S.load1 rfl 3 _ rfl _ 0 rfl 1 (Cel.host h) rfl _ hop0 _ Tryz.underlying3 rfl ?_)
    | (refine S.load1 rfl 26 _ rfl _ 5 rfl 1 (Cel.host h) rfl _ rfl _ Tryz.underlying26 rfl ?_)
    | (refine S.loadAll rfl 49 _ rfl _ rfl 2 (Cel.res R v 0 p) rfl _ Tryz.underlying49 rfl (by rw [res_length hR32]; exact szRes) ?_)
    | (refine S.loadAll rfl 31 _ rfl _ rfl 1 (Cel.host h) rfl _ Tryz.underlying31 rfl szHost ?_)
    | (refine (C.out _ S.inv S.l0le).mono ?_; rintro e w9 ⟨rfl, hm9, hw9⟩; replace S := S.call hm9 hw9; clear hm9 hw9)
    | (refine S.storeAll rfl 49 _ _ rfl _ (Cel.res R v 0 (p + 1)) rfl rfl 0 _ rfl (by rw [res_length hR32, res_length (by simp)]) (one_res hv) (by rw [res_length hR32]; exact szRes) ?_; clear S; intro w S; simp only [List.set_cons_zero, List.set_cons_succ] at S))
  refine bodyPost_ret (S.results2 rfl _ _ rfl 0 _ rfl _ Tryz.underlying49 rfl (by rw [res_length hR32]; exact szRes)) rfl ?_
  exact ⟨rfl, S.inv, S.mid⟩
set_option maxHeartbeats 4000000 in
set_option maxRecDepth 100000 in
theorem touch_26b (R : List Int) (v : Value) (p : Int) (h : HV) (hop : h.op = 26) (ho : HOk h) (hR : okR R) (hv : v.oneCell' = true) (p0 : -4611686018427387904 ≤ p) (p1 : p ≤ 4611686018427387904)
    {pm l0 lo hi : Nat} {Bs : List Reg} {G D : List (List Int)} {q : Nat → Nat} (w : World) (hM : MemAt w pm l0 lo hi Bs G D q) (hl0 : l0 ≤ w.heap.size) (er : Int) (her : stErr Bs h R = er) (hne : er ≠ 0) :
    Calls Tryz.prog 25 #[(Cel.res R v 0 p).val, (Cel.host h).val, .pointer (some ⟨pm, 0, none⟩)] w fun en w' => en = .returned (.tuple #[(Cel.res R v er p).val, .bool false]) ∧ MemAt w' pm l0 lo hi Bs G (stDat Bs D h R) q ∧ Mid lo hi w w' := by
  have S := SH.mem hM hl0
  have hR32 := hR.1
  have hop0 : (Cel.host h).cells[0]? = some (.int .i64 26) := by simp [Cel.cells, hop]
  have C : Hid (∀ w1, MemAt w1 pm l0 lo hi Bs G D q → l0 ≤ w1.heap.size → Calls Tryz.prog 73 #[(Cel.res R v 0 p).val, (Cel.host h).val, .pointer (some ⟨pm, 0, none⟩)] w1 fun en w' => en = .returned (.tuple #[(Cel.res R v er p).val, .bool false]) ∧ MemAt w' pm l0 lo hi Bs G (stDat Bs D h R) q ∧ Mid lo hi w1 w') := fun w1 m1 m2 => by
    have := hstore_w R v p h ho hR hv p0 p1 w1 m1 m2 er her _ rfl
    simpa [hne] using this
  clear ho hR hM her hop hne
  generalize stDat Bs D h R = D2 at *
  go_enter Tryz.func25, Tryz.ntmps25
  go_wp2_with (first
    | (refine S.box rfl _ _ rfl (Cel.res R v 0 p) rfl ?_; clear S; intro b1 w1 S)
    | (refine S.box rfl _ _ rfl (Cel.host h) rfl ?_; clear S; intro b2 w2 S)
    | (refine S.alloc rfl 49 rfl _ zeroRes ?_; clear S; intro b3 w3 S)
    | (refine S.load1 rfl 3 _ rfl _ 0 rfl 1 (Cel.host h) rfl _ hop0 _ Tryz.underlying3 rfl ?_)
    | (refine S.load1 rfl 26 _ rfl _ 5 rfl 1 (Cel.host h) rfl _ rfl _ Tryz.underlying26 rfl ?_)
    | (refine S.loadAll rfl 49 _ rfl _ rfl 2 (Cel.res R v 0 p) rfl _ Tryz.underlying49 rfl (by rw [res_length hR32]; exact szRes) ?_)
    | (refine S.loadAll rfl 31 _ rfl _ rfl 1 (Cel.host h) rfl _ Tryz.underlying31 rfl szHost ?_)
    | (refine (C.out _ S.inv S.l0le).mono ?_; rintro e w9 ⟨rfl, hm9, hw9⟩; replace S := S.call hm9 hw9; clear hm9 hw9)
    | (refine S.storeAll rfl 49 _ _ rfl _ (Cel.res R v er p) rfl rfl 0 _ rfl (by rw [res_length hR32, res_length (by simp)]) (one_res hv) (by rw [res_length hR32]; exact szRes) ?_; clear S; intro w S; simp only [List.set_cons_zero, List.set_cons_succ] at S))
  refine bodyPost_ret (S.results2 rfl _ _ rfl 0 _ rfl _ Tryz.underlying49 rfl (by rw [res_length hR32]; exact szRes)) rfl ?_
  exact ⟨rfl, S.inv, S.mid⟩
set_option maxHeartbeats 4000000 in
set_option maxRecDepth 100000 in
theorem touch_27a (R : List Int) (v : Value) (p : Int) (h : HV) (hop : h.op = 27) (ho : HOk h) (hR : okR R) (hv : v.oneCell' = true) (p0 : -4611686018427387904 ≤ p) (p1 : p ≤ 4611686018427387904)
    {pm l0 lo hi : Nat} {Bs : List Reg} {G D : List (List Int)} {q : Nat → Nat} (w : World) (hM : MemAt w pm l0 lo hi Bs G D q) (hl0 : l0 ≤ w.heap.size) (her : stErr Bs h R = 0) :
    Calls Tryz.prog 25 #[(Cel.res R v 0 p).val, (Cel.host h).val, .pointer (some ⟨pm, 0, none⟩)] w fun en w' => en = .returned (.tuple #[(Cel.res R v 0 (p + 1)).val, .bool true]) ∧ MemAt w' pm l0 lo hi Bs G (stDat Bs D h R) q ∧ Mid lo hi w w' := by
  have S := SH.mem hM hl0
  have hR32 := hR.1
  have hop0 : (Cel.host h).cells[0]? = some (.int .i64 27) := by simp [Cel.cells, hop]
  have C : Hid (∀ w1, MemAt w1 pm l0 lo hi Bs G D q → l0 ≤ w1.heap.size → Calls Tryz.prog 73 #[(Cel.res R v 0 p).val, (Cel.host h).val, .pointer (some ⟨pm, 0, none⟩)] w1 fun en w' => en = .returned (.tuple #[(Cel.res R v 0 (p + 1)).val, .bool true]) ∧ MemAt w' pm l0 lo hi Bs G (stDat Bs D h R) q ∧ Mid lo hi w1 w') := fun w1 m1 m2 => by
    have := hstore_w R v p h ho hR hv p0 p1 w1 m1 m2 0 her _ rfl
    simpa using this
  clear ho hR hM her hop
  generalize stDat Bs D h R = D2 at *
  go_enter Tryz.func25, Tryz.ntmps25
  go_wp2_with (first
    | (refine S.box rfl _ _ rfl (Cel.res R v 0 p) rfl ?_; clear S; intro b1 w1 S)
    | (refine S.box rfl _ _ rfl (Cel.host h) rfl ?_; clear S; intro b2 w2 S)
    | (refine S.alloc rfl 49 rfl _ zeroRes ?_; clear S; intro b3 w3 S)
    | (refine S.load1 rfl 3 _ rfl _ 0 rfl 1 (Cel.host h) rfl _ hop0 _ Tryz.underlying3 rfl ?_)
    | (refine S.load1 rfl 26 _ rfl _ 5 rfl 1 (Cel.host h) rfl _ rfl _ Tryz.underlying26 rfl ?_)
    | (refine S.loadAll rfl 49 _ rfl _ rfl 2 (Cel.res R v 0 p) rfl _ Tryz.underlying49 rfl (by rw [res_length hR32]; exact szRes) ?_)
    | (refine S.loadAll rfl 31 _ rfl _ rfl 1 (Cel.host h) rfl _ Tryz.underlying31 rfl szHost ?_)
    | (refine (C.out _ S.inv S.l0le).mono ?_; rintro e w9 ⟨rfl, hm9, hw9⟩; replace S := S.call hm9 hw9; clear hm9 hw9)
    | (refine S.storeAll rfl 49 _ _ rfl _ (Cel.res R v 0 (p + 1)) rfl rfl 0 _ rfl (by rw [res_length hR32, res_length (by simp)]) (one_res hv) (by rw [res_length hR32]; exact szRes) ?_; clear S; intro w S; simp only [List.set_cons_zero, List.set_cons_succ] at S))
  refine bodyPost_ret (S.results2 rfl _ _ rfl 0 _ rfl _ Tryz.underlying49 rfl (by rw [res_length hR32]; exact szRes)) rfl ?_
  exact ⟨rfl, S.inv, S.mid⟩
set_option maxHeartbeats 4000000 in
set_option maxRecDepth 100000 in
theorem touch_27b (R : List Int) (v : Value) (p : Int) (h : HV) (hop : h.op = 27) (ho : HOk h) (hR : okR R) (hv : v.oneCell' = true) (p0 : -4611686018427387904 ≤ p) (p1 : p ≤ 4611686018427387904)
    {pm l0 lo hi : Nat} {Bs : List Reg} {G D : List (List Int)} {q : Nat → Nat} (w : World) (hM : MemAt w pm l0 lo hi Bs G D q) (hl0 : l0 ≤ w.heap.size) (er : Int) (her : stErr Bs h R = er) (hne : er ≠ 0) :
    Calls Tryz.prog 25 #[(Cel.res R v 0 p).val, (Cel.host h).val, .pointer (some ⟨pm, 0, none⟩)] w fun en w' => en = .returned (.tuple #[(Cel.res R v er p).val, .bool false]) ∧ MemAt w' pm l0 lo hi Bs G (stDat Bs D h R) q ∧ Mid lo hi w w' := by
  have S := SH.mem hM hl0
  have hR32 := hR.1
  have hop0 : (Cel.host h).cells[0]? = some (.int .i64 27) := by simp [Cel.cells, hop]
  have C : Hid (∀ w1, MemAt w1 pm l0 lo hi Bs G D q → l0 ≤ w1.heap.size → Calls Tryz.prog 73 #[(Cel.res R v 0 p).val, (Cel.host h).val, .pointer (some ⟨pm, 0, none⟩)] w1 fun en w' => en = .returned (.tuple #[(Cel.res R v er p).val, .bool false]) ∧ MemAt w' pm l0 lo hi Bs G (stDat Bs D h R) q ∧ Mid lo hi w1 w') := fun w1 m1 m2 => by
    have := hstore_w R v p h ho hR hv p0 p1 w1 m1 m2 er her _ rfl
    simpa [hne] using this
  clear ho hR hM her hop hne
  generalize stDat Bs D h R = D2 at *
  go_enter Tryz.func25, Tryz.ntmps25
  go_wp2_with (first
    | (refine S.box rfl _ _ rfl (Cel.res R v 0 p) rfl ?_; clear S; intro b1 w1 S)
    | (refine S.box rfl _ _ rfl (Cel.host h) rfl ?_; clear S; intro b2 w2 S)
    | (refine S.alloc rfl 49 rfl _ zeroRes ?_; clear S; intro b3 w3 S)
    | (refine S.load1 rfl 3 _ rfl _ 0 rfl 1 (Cel.host h) rfl _ hop0 _ Tryz.underlying3 rfl ?_)
    | (refine S.load1 rfl 26 _ rfl _ 5 rfl 1 (Cel.host h) rfl _ rfl _ Tryz.underlying26 rfl ?_)
    | (refine S.loadAll rfl 49 _ rfl _ rfl 2 (Cel.res R v 0 p) rfl _ Tryz.underlying49 rfl (by rw [res_length hR32]; exact szRes) ?_)
    | (refine S.loadAll rfl 31 _ rfl _ rfl 1 (Cel.host h) rfl _ Tryz.underlying31 rfl szHost ?_)
    | (refine (C.out _ S.inv S.l0le).mono ?_; rintro e w9 ⟨rfl, hm9, hw9⟩; replace S := S.call hm9 hw9; clear hm9 hw9)
    | (refine S.storeAll rfl 49 _ _ rfl _ (Cel.res R v er p) rfl rfl 0 _ rfl (by rw [res_length hR32, res_length (by simp)]) (one_res hv) (by rw [res_length hR32]; exact szRes) ?_; clear S; intro w S; simp only [List.set_cons_zero, List.set_cons_succ] at S))
  refine bodyPost_ret (S.results2 rfl _ _ rfl 0 _ rfl _ Tryz.underlying49 rfl (by rw [res_length hR32]; exact szRes)) rfl ?_
  exact ⟨rfl, S.inv, S.mid⟩
set_option maxHeartbeats 4000000 in
set_option maxRecDepth 100000 in
theorem touch_28 (R : List Int) (v : Value) (p : Int) (h : HV) (hop : h.op = 28) (ho : HOk h) (hR : okR R) (hv : v.oneCell' = true) (p0 : -4611686018427387904 ≤ p) (p1 : p ≤ 4611686018427387904)
    {pm l0 lo hi : Nat} {Bs : List Reg} {G D : List (List Int)} {q : Nat → Nat} (w : World) (hM : MemAt w pm l0 lo hi Bs G D q) (hl0 : l0 ≤ w.heap.size) :
    Calls Tryz.prog 25 #[(Cel.res R v 0 p).val, (Cel.host h).val, .pointer (some ⟨pm, 0, none⟩)] w fun en w' => en = .returned (.tuple #[(Cel.res R v 0 (p + wrap32 h.im)).val, .bool true]) ∧ MemAt w' pm l0 lo hi Bs G D q ∧ Mid lo hi w w' := by
  have S := SH.mem hM hl0
  have hR32 := hR.1
  have hop0 : (Cel.host h).cells[0]? = some (.int .i64 28) := by simp [Cel.cells, hop]
  have C : Hid (∀ w1, Calls Tryz.prog 74 #[(Cel.res R v 0 p).val, (Cel.host h).val, .bool true] w1 fun en w' => en = .returned (Cel.res R v 0 (p + wrap32 h.im)).val ∧ Below w1.heap.size w1 w') := fun w1 => jump_t R v 0 p h hR32 hv ho.2.2.2.2.1 ho.2.2.2.2.2 p0 p1 w1
  clear ho hR hM hop
  generalize p + wrap32 h.im = p2 at *
  go_enter Tryz.func25, Tryz.ntmps25
  go_wp2_with (first
    | (refine S.box rfl _ _ rfl (Cel.res R v 0 p) rfl ?_; clear S; intro b1 w1 S)
    | (refine S.box rfl _ _ rfl (Cel.host h) rfl ?_; clear S; intro b2 w2 S)
    | (refine S.alloc rfl 49 rfl _ zeroRes ?_; clear S; intro b3 w3 S)
    | (refine S.load1 rfl 3 _ rfl _ 0 rfl 1 (Cel.host h) rfl _ hop0 _ Tryz.underlying3 rfl ?_)
    | (refine S.load1 rfl 26 _ rfl _ 5 rfl 1 (Cel.host h) rfl _ rfl _ Tryz.underlying26 rfl ?_)
    | (refine S.loadAll rfl 49 _ rfl _ rfl 2 (Cel.res R v 0 p) rfl _ Tryz.underlying49 rfl (by rw [res_length hR32]; exact szRes) ?_)
    | (refine S.loadAll rfl 31 _ rfl _ rfl 1 (Cel.host h) rfl _ Tryz.underlying31 rfl szHost ?_)
    | (refine (C.out _).mono ?_; rintro e w9 ⟨rfl, hw9⟩; replace S := S.below hw9; clear hw9)
    | (refine S.storeAll rfl 49 _ _ rfl _ (Cel.res R v 0 p2) rfl rfl 0 _ rfl (by rw [res_length hR32, res_length (by simp)]) (one_res hv) (by rw [res_length hR32]; exact szRes) ?_; clear S; intro w S; simp only [List.set_cons_zero, List.set_cons_succ] at S))
  refine bodyPost_ret (S.results2 rfl _ _ rfl 0 _ rfl _ Tryz.underlying49 rfl (by rw [res_length hR32]; exact szRes)) rfl ?_
  exact ⟨rfl, S.inv, S.mid⟩
set_option maxHeartbeats 4000000 in
set_option maxRecDepth 100000 in
theorem touch_29a (R : List Int) (v : Value) (p : Int) (h : HV) (hop : h.op = 29) (ho : HOk h) (hR : okR R) (hv : v.oneCell' = true) (p0 : -4611686018427387904 ≤ p) (p1 : p ≤ 4611686018427387904)
    {pm l0 lo hi : Nat} {Bs : List Reg} {G D : List (List Int)} {q : Nat → Nat} (w : World) (hM : MemAt w pm l0 lo hi Bs G D q) (hl0 : l0 ≤ w.heap.size) (hz : regv R h.a = 0) :
    Calls Tryz.prog 25 #[(Cel.res R v 0 p).val, (Cel.host h).val, .pointer (some ⟨pm, 0, none⟩)] w fun en w' => en = .returned (.tuple #[(Cel.res R v 0 (p + wrap32 h.im)).val, .bool true]) ∧ MemAt w' pm l0 lo hi Bs G D q ∧ Mid lo hi w w' := by
  have S := SH.mem hM hl0
  have hR32 := hR.1
  have hop0 : (Cel.host h).cells[0]? = some (.int .i64 29) := by simp [Cel.cells, hop]
  have C : Hid (∀ w1, Calls Tryz.prog 74 #[(Cel.res R v 0 p).val, (Cel.host h).val, .bool true] w1 fun en w' => en = .returned (Cel.res R v 0 (p + wrap32 h.im)).val ∧ Below w1.heap.size w1 w') := fun w1 => jump_t R v 0 p h hR32 hv ho.2.2.2.2.1 ho.2.2.2.2.2 p0 p1 w1
  obtain ⟨a0, a1⟩ := ho.2.1
  obtain ⟨hA, ua, va⟩ := regv_at hR a0 a1
  have HA : Hid (R[h.a.toNat]? = some (regv R h.a)) := hA
  have hq : (regv R h.a == 0) = true := by simpa using hz
  clear ho hR hM hop hA hz
  generalize regv R h.a = x at *
  generalize (p + wrap32 h.im) = p2 at *
  go_enter Tryz.func25, Tryz.ntmps25
  go_wp2_with (first
    | (refine S.box rfl _ _ rfl (Cel.res R v 0 p) rfl ?_; clear S; intro b1 w1 S)
    | (refine S.box rfl _ _ rfl (Cel.host h) rfl ?_; clear S; intro b2 w2 S)
    | (refine S.alloc rfl 49 rfl _ zeroRes ?_; clear S; intro b3 w3 S)
    | (refine S.load1 rfl 3 _ rfl _ 0 rfl 1 (Cel.host h) rfl _ hop0 _ Tryz.underlying3 rfl ?_)
    | (refine S.load1 rfl 26 _ rfl _ 5 rfl 1 (Cel.host h) rfl _ rfl _ Tryz.underlying26 rfl ?_)
    | (refine S.loadAll rfl 49 _ rfl _ rfl 2 (Cel.res R v 0 p) rfl _ Tryz.underlying49 rfl (by rw [res_length hR32]; exact szRes) ?_)
    | (refine S.loadAll rfl 31 _ rfl _ rfl 1 (Cel.host h) rfl _ Tryz.underlying31 rfl szHost ?_))
  refine Upto.start (S := fun w' => SH (memZ pm l0 lo hi Bs G D q) w w' [(b2, Cel.host h), (b1, Cel.res R v 0 p)]) 10 (by kernel_rfl) ?_
  replace S := S.drew
  refine Upto.take (i := 0) (oi := { dst := some 37, op := Op.load 49 (Operand.tmp 3), type := 49, pos := "hvm.go:100", after := #[], guard := none }) (v := _) rfl (by kernel_rfl) (by kernel_rfl) (by kernel_rfl) (by kernel_rfl) (fun _ _ _ h => h) (y_loadAll (by rfl) _ _ rfl _ rfl 1 _ rfl _ Tryz.underlying49 rfl (by rw [res_length hR32]; exact szRes)) (by exact S.fewer 1) ?_
  simp only [Act.put, List.setIfInBounds_toArray, List.set_cons_zero, List.set_cons_succ]
  refine Upto.take (i := 1) (oi := { dst := some 38, op := Op.load 31 (Operand.tmp 4), type := 31, pos := "hvm.go:100", after := #[], guard := none }) (v := _) rfl (by kernel_rfl) (by kernel_rfl) (by kernel_rfl) (by kernel_rfl) (fun _ _ _ h => h) (y_loadAll (by rfl) _ _ rfl _ rfl 0 _ rfl _ Tryz.underlying31 rfl szHost) (by exact S.fewer 1) ?_
  simp only [Act.put, List.setIfInBounds_toArray, List.set_cons_zero, List.set_cons_succ]
  refine Upto.take (i := 2) (oi := { dst := some 39, op := Op.fieldAddr 31 (Operand.tmp 4) 2, type := 0, pos := "hvm.go:100", after := #[], guard := none }) (v := ?_) rfl (by kernel_rfl) (by kernel_rfl) (by kernel_rfl) (by kernel_rfl) (fun _ _ _ h => h) (Or.inl ⟨by rfl, ?_⟩) (by exact S.fewer 1) ?_
  rotate_left 1
  · intro w hSw
    clear hSw
    go_simp
    try with_reducible rfl
  simp only [Act.put, List.setIfInBounds_toArray, List.set_cons_zero, List.set_cons_succ]
  refine Upto.take (i := 3) (oi := { dst := some 40, op := Op.load 3 (Operand.tmp 39), type := 3, pos := "hvm.go:100", after := #[{ on := 2, ground := Ground.data }], guard := none }) (v := _) rfl (by kernel_rfl) (by kernel_rfl) (by kernel_rfl) (by kernel_rfl) (fun _ _ _ h => h) (y_load1 (by rfl) _ _ rfl _ _ rfl 0 _ rfl _ rfl _ Tryz.underlying3 rfl) (by exact S.fewer 1) ?_
  simp only [Act.put, List.setIfInBounds_toArray, List.set_cons_zero, List.set_cons_succ]
  refine Upto.take (i := 4) (oi := { dst := some 41, op := Op.fieldAddr 49 (Operand.tmp 3) 0, type := 0, pos := "hvm.go:100", after := #[], guard := none }) (v := ?_) rfl (by kernel_rfl) (by kernel_rfl) (by kernel_rfl) (by kernel_rfl) (fun _ _ _ h => h) (Or.inl ⟨by rfl, ?_⟩) (by exact S.fewer 1) ?_
  rotate_left 1
  · intro w hSw
    clear hSw
    go_simp
    try with_reducible rfl
  simp only [Act.put, List.setIfInBounds_toArray, List.set_cons_zero, List.set_cons_succ]
  refine Upto.take (i := 5) (oi := { dst := some 42, op := Op.indexAddr 27 (Operand.tmp 41) (Operand.tmp 40), type := 0, pos := "hvm.go:100", after := #[{ on := 4, ground := Ground.data }, { on := 3, ground := Ground.data }], guard := none }) (v := ?_) rfl (by kernel_rfl) (by kernel_rfl) (by kernel_rfl) (by kernel_rfl) (fun _ _ _ h => h) (Or.inl ⟨by rfl, ?_⟩) (by exact S.fewer 1) ?_
  rotate_left 1
  · intro w hSw
    clear hSw
    go_simp
    try with_reducible rfl
  simp only [Act.put, List.setIfInBounds_toArray, List.set_cons_zero, List.set_cons_succ]
  refine Upto.take (i := 6) (oi := { dst := some 43, op := Op.load 26 (Operand.tmp 42), type := 26, pos := "hvm.go:100", after := #[{ on := 5, ground := Ground.data }], guard := none }) (v := _) rfl (by kernel_rfl) (by kernel_rfl) (by kernel_rfl) (by kernel_rfl) (fun _ _ _ h => h) (y_load1 (by rfl) _ _ rfl _ _ rfl 1 _ rfl _ (res_reg HA.out _ _ _) _ Tryz.underlying26 rfl) (by exact S.fewer 1) ?_
  simp only [Act.put, List.setIfInBounds_toArray, List.set_cons_zero, List.set_cons_succ]
  refine Upto.take (i := 7) (oi := { dst := some 44, op := Op.binOp BinOp.eql 26 (Operand.tmp 43) (Operand.const (Value.int IntKind.u32 0)) 26, type := 4, pos := "hvm.go:100", after := #[{ on := 6, ground := Ground.data }], guard := none }) (v := ?_) rfl (by kernel_rfl) (by kernel_rfl) (by kernel_rfl) (by kernel_rfl) (fun _ _ _ h => h) (Or.inl ⟨by rfl, ?_⟩) (by exact S.fewer 1) ?_
  rotate_left 1
  · intro w hSw
    clear hSw
    go_simp
    try with_reducible rfl
  simp only [Act.put, List.setIfInBounds_toArray, List.set_cons_zero, List.set_cons_succ]
  refine Upto.ready (rs := [8]) (by kernel_rfl) (by simp) ?_
  refine Nexts.cons rfl (by decide) (fun K hK => ?_) Nexts.nil
  go_simp
  go_wp2_with (refine (C.out _).mono ?_; rintro e w9 ⟨rfl, hw9⟩; replace S := S.below hw9; clear hw9)
  refine hK.out _ _ (by exact S.fewer 1) ?_
  clear hK K
  refine Upto.ready (rs := [9]) (by kernel_rfl) (by simp) ?_
  refine Nexts.cons rfl (by decide) (fun K hK => ?_) Nexts.nil
  rw [if_pos (by rfl)]
  refine S.wpStoreAll 49 _ _ rfl _ (Cel.res R v 0 p2) rfl rfl 0 _ rfl (by rw [res_length hR32, res_length (by simp)]) (one_res hv) (by rw [res_length hR32]; exact szRes) ?_
  clear S
  intro w9 S
  simp only [List.set_cons_zero, List.set_cons_succ] at S
  refine hK.out _ _ (by exact S.fewer 1) ?_
  simp only [Act.put, List.setIfInBounds_toArray, List.set_cons_zero, List.set_cons_succ]
  clear hK K
  refine Upto.ready (rs := [10]) (by kernel_rfl) (by simp) ?_
  refine Nexts.last rfl (fun K hK => ?_)
  go_simp
  refine hK.out _ _ ?_
  clear hK K
  refine Upto.done (by kernel_rfl) ?_ _
  go_wp2
  refine bodyPost_ret (S.results2 rfl _ _ rfl 0 _ rfl _ Tryz.underlying49 rfl (by rw [res_length hR32]; exact szRes)) rfl ?_
  exact ⟨rfl, S.inv, S.mid⟩
set_option maxHeartbeats 4000000 in
set_option maxRecDepth 100000 in
theorem touch_29b (R : List Int) (v : Value) (p : Int) (h : HV) (hop : h.op = 29) (ho : HOk h) (hR : okR R) (hv : v.oneCell' = true) (p0 : -4611686018427387904 ≤ p) (p1 : p ≤ 4611686018427387904)
    {pm l0 lo hi : Nat} {Bs : List Reg} {G D : List (List Int)} {q : Nat → Nat} (w : World) (hM : MemAt w pm l0 lo hi Bs G D q) (hl0 : l0 ≤ w.heap.size) (hz : regv R h.a ≠ 0) :
    Calls Tryz.prog 25 #[(Cel.res R v 0 p).val, (Cel.host h).val, .pointer (some ⟨pm, 0, none⟩)] w fun en w' => en = .returned (.tuple #[(Cel.res R v 0 (p + 1)).val, .bool true]) ∧ MemAt w' pm l0 lo hi Bs G D q ∧ Mid lo hi w w' := by
  have S := SH.mem hM hl0
  have hR32 := hR.1
  have hop0 : (Cel.host h).cells[0]? = some (.int .i64 29) := by simp [Cel.cells, hop]
  have C : Hid (∀ w1, Calls Tryz.prog 74 #[(Cel.res R v 0 p).val, (Cel.host h).val, .bool false] w1 fun en w' => en = .returned (Cel.res R v 0 (p + 1)).val ∧ Below w1.heap.size w1 w') := fun w1 => jump_f R v 0 p h hR32 hv p0 p1 w1
  obtain ⟨a0, a1⟩ := ho.2.1
  obtain ⟨hA, ua, va⟩ := regv_at hR a0 a1
  have HA : Hid (R[h.a.toNat]? = some (regv R h.a)) := hA
  have hq : (regv R h.a == 0) = false := by simpa using hz
  clear ho hR hM hop hA hz
  generalize regv R h.a = x at *
  generalize (p + 1) = p2 at *
  go_enter Tryz.func25, Tryz.ntmps25
  go_wp2_with (first
    | (refine S.box rfl _ _ rfl (Cel.res R v 0 p) rfl ?_; clear S; intro b1 w1 S)
    | (refine S.box rfl _ _ rfl (Cel.host h) rfl ?_; clear S; intro b2 w2 S)
    | (refine S.alloc rfl 49 rfl _ zeroRes ?_; clear S; intro b3 w3 S)
    | (refine S.load1 rfl 3 _ rfl _ 0 rfl 1 (Cel.host h) rfl _ hop0 _ Tryz.underlying3 rfl ?_)
    | (refine S.load1 rfl 26 _ rfl _ 5 rfl 1 (Cel.host h) rfl _ rfl _ Tryz.underlying26 rfl ?_)
    | (refine S.loadAll rfl 49 _ rfl _ rfl 2 (Cel.res R v 0 p) rfl _ Tryz.underlying49 rfl (by rw [res_length hR32]; exact szRes) ?_)
    | (refine S.loadAll rfl 31 _ rfl _ rfl 1 (Cel.host h) rfl _ Tryz.underlying31 rfl szHost ?_))
  refine Upto.start (S := fun w' => SH (memZ pm l0 lo hi Bs G D q) w w' [(b2, Cel.host h), (b1, Cel.res R v 0 p)]) 10 (by kernel_rfl) ?_
  replace S := S.drew
  refine Upto.take (i := 0) (oi := { dst := some 37, op := Op.load 49 (Operand.tmp 3), type := 49, pos := "hvm.go:100", after := #[], guard := none }) (v := _) rfl (by kernel_rfl) (by kernel_rfl) (by kernel_rfl) (by kernel_rfl) (fun _ _ _ h => h) (y_loadAll (by rfl) _ _ rfl _ rfl 1 _ rfl _ Tryz.underlying49 rfl (by rw [res_length hR32]; exact szRes)) (by exact S.fewer 1) ?_
  simp only [Act.put, List.setIfInBounds_toArray, List.set_cons_zero, List.set_cons_succ]
  refine Upto.take (i := 1) (oi := { dst := some 38, op := Op.load 31 (Operand.tmp 4), type := 31, pos := "hvm.go:100", after := #[], guard := none }) (v := _) rfl (by kernel_rfl) (by kernel_rfl) (by kernel_rfl) (by kernel_rfl) (fun _ _ _ h => h) (y_loadAll (by rfl) _ _ rfl _ rfl 0 _ rfl _ Tryz.underlying31 rfl szHost) (by exact S.fewer 1) ?_
  simp only [Act.put, List.setIfInBounds_toArray, List.set_cons_zero, List.set_cons_succ]
  refine Upto.take (i := 2) (oi := { dst := some 39, op := Op.fieldAddr 31 (Operand.tmp 4) 2, type := 0, pos := "hvm.go:100", after := #[], guard := none }) (v := ?_) rfl (by kernel_rfl) (by kernel_rfl) (by kernel_rfl) (by kernel_rfl) (fun _ _ _ h => h) (Or.inl ⟨by rfl, ?_⟩) (by exact S.fewer 1) ?_
  rotate_left 1
  · intro w hSw
    clear hSw
    go_simp
    try with_reducible rfl
  simp only [Act.put, List.setIfInBounds_toArray, List.set_cons_zero, List.set_cons_succ]
  refine Upto.take (i := 3) (oi := { dst := some 40, op := Op.load 3 (Operand.tmp 39), type := 3, pos := "hvm.go:100", after := #[{ on := 2, ground := Ground.data }], guard := none }) (v := _) rfl (by kernel_rfl) (by kernel_rfl) (by kernel_rfl) (by kernel_rfl) (fun _ _ _ h => h) (y_load1 (by rfl) _ _ rfl _ _ rfl 0 _ rfl _ rfl _ Tryz.underlying3 rfl) (by exact S.fewer 1) ?_
  simp only [Act.put, List.setIfInBounds_toArray, List.set_cons_zero, List.set_cons_succ]
  refine Upto.take (i := 4) (oi := { dst := some 41, op := Op.fieldAddr 49 (Operand.tmp 3) 0, type := 0, pos := "hvm.go:100", after := #[], guard := none }) (v := ?_) rfl (by kernel_rfl) (by kernel_rfl) (by kernel_rfl) (by kernel_rfl) (fun _ _ _ h => h) (Or.inl ⟨by rfl, ?_⟩) (by exact S.fewer 1) ?_
  rotate_left 1
  · intro w hSw
    clear hSw
    go_simp
    try with_reducible rfl
  simp only [Act.put, List.setIfInBounds_toArray, List.set_cons_zero, List.set_cons_succ]
  refine Upto.take (i := 5) (oi := { dst := some 42, op := Op.indexAddr 27 (Operand.tmp 41) (Operand.tmp 40), type := 0, pos := "hvm.go:100", after := #[{ on := 4, ground := Ground.data }, { on := 3, ground := Ground.data }], guard := none }) (v := ?_) rfl (by kernel_rfl) (by kernel_rfl) (by kernel_rfl) (by kernel_rfl) (fun _ _ _ h => h) (Or.inl ⟨by rfl, ?_⟩) (by exact S.fewer 1) ?_
  rotate_left 1
  · intro w hSw
    clear hSw
    go_simp
    try with_reducible rfl
  simp only [Act.put, List.setIfInBounds_toArray, List.set_cons_zero, List.set_cons_succ]
  refine Upto.take (i := 6) (oi := { dst := some 43, op := Op.load 26 (Operand.tmp 42), type := 26, pos := "hvm.go:100", after := #[{ on := 5, ground := Ground.data }], guard := none }) (v := _) rfl (by kernel_rfl) (by kernel_rfl) (by kernel_rfl) (by kernel_rfl) (fun _ _ _ h => h) (y_load1 (by rfl) _ _ rfl _ _ rfl 1 _ rfl _ (res_reg HA.out _ _ _) _ Tryz.underlying26 rfl) (by exact S.fewer 1) ?_
  simp only [Act.put, List.setIfInBounds_toArray, List.set_cons_zero, List.set_cons_succ]
  refine Upto.take (i := 7) (oi := { dst := some 44, op := Op.binOp BinOp.eql 26 (Operand.tmp 43) (Operand.const (Value.int IntKind.u32 0)) 26, type := 4, pos := "hvm.go:100", after := #[{ on := 6, ground := Ground.data }], guard := none }) (v := ?_) rfl (by kernel_rfl) (by kernel_rfl) (by kernel_rfl) (by kernel_rfl) (fun _ _ _ h => h) (Or.inl ⟨by rfl, ?_⟩) (by exact S.fewer 1) ?_
  rotate_left 1
  · intro w hSw
    clear hSw
    go_simp
    try with_reducible rfl
  simp only [Act.put, List.setIfInBounds_toArray, List.set_cons_zero, List.set_cons_succ]
  refine Upto.ready (rs := [8]) (by kernel_rfl) (by simp) ?_
  refine Nexts.cons rfl (by decide) (fun K hK => ?_) Nexts.nil
  go_simp
  go_wp2_with (refine (C.out _).mono ?_; rintro e w9 ⟨rfl, hw9⟩; replace S := S.below hw9; clear hw9)
  refine hK.out _ _ (by exact S.fewer 1) ?_
  clear hK K
  refine Upto.ready (rs := [9]) (by kernel_rfl) (by simp) ?_
  refine Nexts.cons rfl (by decide) (fun K hK => ?_) Nexts.nil
  rw [if_pos (by rfl)]
  refine S.wpStoreAll 49 _ _ rfl _ (Cel.res R v 0 p2) rfl rfl 0 _ rfl (by rw [res_length hR32, res_length (by simp)]) (one_res hv) (by rw [res_length hR32]; exact szRes) ?_
  clear S
  intro w9 S
  simp only [List.set_cons_zero, List.set_cons_succ] at S
  refine hK.out _ _ (by exact S.fewer 1) ?_
  simp only [Act.put, List.setIfInBounds_toArray, List.set_cons_zero, List.set_cons_succ]
  clear hK K
  refine Upto.ready (rs := [10]) (by kernel_rfl) (by simp) ?_
  refine Nexts.last rfl (fun K hK => ?_)
  go_simp
  refine hK.out _ _ ?_
  clear hK K
  refine Upto.done (by kernel_rfl) ?_ _
  go_wp2
  refine bodyPost_ret (S.results2 rfl _ _ rfl 0 _ rfl _ Tryz.underlying49 rfl (by rw [res_length hR32]; exact szRes)) rfl ?_
  exact ⟨rfl, S.inv, S.mid⟩
set_option maxHeartbeats 4000000 in
set_option maxRecDepth 100000 in
theorem touch_31 (R : List Int) (v : Value) (p : Int) (h : HV) (hop : h.op = 31) (ho : HOk h) (hR : okR R) (hv : v.oneCell' = true) (p0 : -4611686018427387904 ≤ p) (p1 : p ≤ 4611686018427387904)
    {pm l0 lo hi : Nat} {Bs : List Reg} {G D : List (List Int)} {q : Nat → Nat} (w : World) (hM : MemAt w pm l0 lo hi Bs G D q) (hl0 : l0 ≤ w.heap.size) :
    Calls Tryz.prog 25 #[(Cel.res R v 0 p).val, (Cel.host h).val, .pointer (some ⟨pm, 0, none⟩)] w fun en w' => en = .returned (.tuple #[(Cel.res R v h.im p).val, .bool false]) ∧ MemAt w' pm l0 lo hi Bs G D q ∧ Mid lo hi w w' := by
  have S := SH.mem hM hl0
  have hR32 := hR.1
  have hop0 : (Cel.host h).cells[0]? = some (.int .i64 31) := by simp [Cel.cells, hop]
  have C : Hid (∀ w1, Calls Tryz.prog 75 #[(Cel.res R v 0 p).val, .int .i64 h.im] w1 fun en w' => en = .returned (.tuple #[(Cel.res R v h.im p).val, .bool false]) ∧ Below w1.heap.size w1 w') := fun w1 => hend_c R v 0 p h.im hR32 hv w1
  obtain ⟨i0, i1⟩ := ho.2.2.2.2
  have ew : IntKind.i64.wrap h.im = h.im := by rw [IntKind.wrap_i64]; omega
  clear ho hR hM hop
  go_enter Tryz.func25, Tryz.ntmps25
  go_wp2_with (first
    | (refine S.box rfl _ _ rfl (Cel.res R v 0 p) rfl ?_; clear S; intro b1 w1 S)
    | (refine S.box rfl _ _ rfl (Cel.host h) rfl ?_; clear S; intro b2 w2 S)
    | (refine S.alloc rfl 49 rfl _ zeroRes ?_; clear S; intro b3 w3 S)
    | (refine S.load1 rfl 3 _ rfl _ 0 rfl 1 (Cel.host h) rfl _ hop0 _ Tryz.underlying3 rfl ?_)
    | (refine S.load1 rfl 26 _ rfl _ 5 rfl 1 (Cel.host h) rfl _ rfl _ Tryz.underlying26 rfl ?_)
    | (refine S.loadAll rfl 49 _ rfl _ rfl 2 (Cel.res R v 0 p) rfl _ Tryz.underlying49 rfl (by rw [res_length hR32]; exact szRes) ?_)
    | (refine S.loadAll rfl 31 _ rfl _ rfl 1 (Cel.host h) rfl _ Tryz.underlying31 rfl szHost ?_)
    | (refine (C.out _).mono ?_; rintro e w9 ⟨rfl, hw9⟩; replace S := S.below hw9; clear hw9)
    | (refine S.storeAll rfl 49 _ _ rfl _ (Cel.res R v h.im p) rfl rfl 0 _ rfl (by rw [res_length hR32, res_length (by simp)]) (one_res hv) (by rw [res_length hR32]; exact szRes) ?_; clear S; intro w S; simp only [List.set_cons_zero, List.set_cons_succ] at S))
  refine bodyPost_ret (S.results2 rfl _ _ rfl 0 _ rfl _ Tryz.underlying49 rfl (by rw [res_length hR32]; exact szRes)) rfl ?_
  exact ⟨rfl, S.inv, S.mid⟩
set_option maxHeartbeats 4000000 in
set_option maxRecDepth 100000 in
theorem touch_30 (R : List Int) (v : Value) (p : Int) (h : HV) (hop : h.op = 30) (ho : HOk h) (hR : okR R) (hv : v.oneCell' = true) (p0 : -4611686018427387904 ≤ p) (p1 : p ≤ 4611686018427387904)
    {pm l0 lo hi : Nat} {Bs : List Reg} {G D : List (List Int)} {q : Nat → Nat} (w : World) (hM : MemAt w pm l0 lo hi Bs G D q) (hl0 : l0 ≤ w.heap.size) :
    Calls Tryz.prog 25 #[(Cel.res R v 0 p).val, (Cel.host h).val, .pointer (some ⟨pm, 0, none⟩)] w fun en w' => en = .returned (.tuple #[(Cel.res R v 0 p).val, .bool false]) ∧ MemAt w' pm l0 lo hi Bs G D q ∧ Mid lo hi w w' := by
  have S := SH.mem hM hl0
  have hR32 := hR.1
  have hop0 : (Cel.host h).cells[0]? = some (.int .i64 30) := by simp [Cel.cells, hop]
  have C : Hid (∀ w1, Calls Tryz.prog 75 #[(Cel.res R v 0 p).val, .int .i64 0] w1 fun en w' => en = .returned (.tuple #[(Cel.res R v 0 p).val, .bool false]) ∧ Below w1.heap.size w1 w') := fun w1 => hend_c R v 0 p 0 hR32 hv w1
  clear ho hR hM hop
  go_enter Tryz.func25, Tryz.ntmps25
  go_wp2_with (first
    | (refine S.box rfl _ _ rfl (Cel.res R v 0 p) rfl ?_; clear S; intro b1 w1 S)
    | (refine S.box rfl _ _ rfl (Cel.host h) rfl ?_; clear S; intro b2 w2 S)
    | (refine S.alloc rfl 49 rfl _ zeroRes ?_; clear S; intro b3 w3 S)
    | (refine S.load1 rfl 3 _ rfl _ 0 rfl 1 (Cel.host h) rfl _ hop0 _ Tryz.underlying3 rfl ?_)
    | (refine S.load1 rfl 26 _ rfl _ 5 rfl 1 (Cel.host h) rfl _ rfl _ Tryz.underlying26 rfl ?_)
    | (refine S.loadAll rfl 49 _ rfl _ rfl 2 (Cel.res R v 0 p) rfl _ Tryz.underlying49 rfl (by rw [res_length hR32]; exact szRes) ?_)
    | (refine S.loadAll rfl 31 _ rfl _ rfl 1 (Cel.host h) rfl _ Tryz.underlying31 rfl szHost ?_)
    | (refine (C.out _).mono ?_; rintro e w9 ⟨rfl, hw9⟩; replace S := S.below hw9; clear hw9)
    | (refine S.storeAll rfl 49 _ _ rfl _ (Cel.res R v 0 p) rfl rfl 0 _ rfl (by rw [res_length hR32, res_length (by simp)]) (one_res hv) (by rw [res_length hR32]; exact szRes) ?_; clear S; intro w S; simp only [List.set_cons_zero, List.set_cons_succ] at S))
  refine bodyPost_ret (S.results2 rfl _ _ rfl 0 _ rfl _ Tryz.underlying49 rfl (by rw [res_length hR32]; exact szRes)) rfl ?_
  exact ⟨rfl, S.inv, S.mid⟩
end Go.Proofs.YtjhmmfpmmgebjaaGreat
