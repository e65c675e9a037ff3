/- The program's radical: Power. -/
import Derived.Test.YthfabjpbdgieoaaGreatDoorRdPCZ
import Derived.Test.YthfabjpbdgieoaaGreatDoorRdPDZ
import Derived.Test.YthfabjpbdgieoaaGreatDoorBaseZZ
import Derived.Deep.RegionHeld3
import Derived.Deep.DrawnRows
namespace Go.Proofs.YthfabjpbdgieoaaGreatDoor
open Go.RowKit
set_option linter.unusedVariables false
set_option linter.unusedSimpArgs false
set_option maxRecDepth 100000
attribute [local go_sem ↓] Go.wp_at_zero Go.wp_at_succ

def sgB (m n : Int) : Bool := decide (cmpI m 0 = cmpI n 0)
def sgV (m n : Int) : Int := if cmpI m 0 = cmpI n 0 then cmpI m 0 else 0
/-- What Power returns. -/
def RetPw (w : World) (m e n f j k : Int) : Ending → World → Prop := if (workB k && powB j) = true then (if j < 0 ∧ sgB m n = true ∧ sgV m n = 0 then RetIE w 0 0 0 0 2 else if j < 0 ∧ sgB m n = false then RetIE w 0 0 0 0 5 else RetEn w (plo (sgB m n) (dq m e) (dq n f) j) (phi (sgB m n) (dq m e) (dq n f) j) k) else RetIE w 0 0 0 0 1
theorem pw_least3 (m e n f j : Int) : Least [(m, e), (0, 0), (n, f)] (fun p => pw (dOf p) j) (plo false (dq m e) (dq n f) j) := by
  have hz : dOf (0, 0) = 0 := dq_zero 0
  obtain ⟨l1, l2, l3⟩ := plo_le false (dq m e) (dq n f) j
  refine ⟨?_, fun p hp => ?_⟩
  · obtain ⟨y, hy, e1⟩ := plo_or false (dq m e) (dq n f) j
    rcases hy with rfl | rfl | ⟨rfl, _⟩
    · exact ⟨(m, e), by simp, e1.symm⟩
    · exact ⟨(n, f), by simp, e1.symm⟩
    · exact ⟨(0, 0), by simp, by rw [e1]; show pw (dOf (0, 0)) j = pw 0 j; rw [hz]⟩
  · simp only [List.mem_cons, List.not_mem_nil, or_false] at hp
    rcases hp with rfl | rfl | rfl
    · exact l1
    · show _ ≤ pw (dOf (0, 0)) j
      rw [hz]; exact l3 rfl
    · exact l2
theorem pw_most3 (m e n f j : Int) : Most [(m, e), (0, 0), (n, f)] (fun p => pw (dOf p) j) (phi false (dq m e) (dq n f) j) := by
  have hz : dOf (0, 0) = 0 := dq_zero 0
  obtain ⟨l1, l2, l3⟩ := le_phi false (dq m e) (dq n f) j
  refine ⟨?_, fun p hp => ?_⟩
  · obtain ⟨y, hy, e1⟩ := phi_or false (dq m e) (dq n f) j
    rcases hy with rfl | rfl | ⟨rfl, _⟩
    · exact ⟨(m, e), by simp, e1.symm⟩
    · exact ⟨(n, f), by simp, e1.symm⟩
    · exact ⟨(0, 0), by simp, by rw [e1]; show pw (dOf (0, 0)) j = pw 0 j; rw [hz]⟩
  · simp only [List.mem_cons, List.not_mem_nil, or_false] at hp
    rcases hp with rfl | rfl | rfl
    · exact l1
    · show pw (dOf (0, 0)) j ≤ _
      rw [hz]; exact l3 rfl
    · exact l2
theorem pw_least2 (m e n f j : Int) : Least [(m, e), (n, f)] (fun p => pw (dOf p) j) (plo true (dq m e) (dq n f) j) := by
  obtain ⟨l1, l2, _⟩ := plo_le true (dq m e) (dq n f) j
  refine ⟨?_, fun p hp => ?_⟩
  · obtain ⟨y, hy, e1⟩ := plo_or true (dq m e) (dq n f) j
    rcases hy with rfl | rfl | ⟨_, h⟩
    · exact ⟨(m, e), by simp, e1.symm⟩
    · exact ⟨(n, f), by simp, e1.symm⟩
    · cases h
  · simp only [List.mem_cons, List.not_mem_nil, or_false] at hp
    rcases hp with rfl | rfl
    · exact l1
    · exact l2
theorem pw_most2 (m e n f j : Int) : Most [(m, e), (n, f)] (fun p => pw (dOf p) j) (phi true (dq m e) (dq n f) j) := by
  obtain ⟨l1, l2, _⟩ := le_phi true (dq m e) (dq n f) j
  refine ⟨?_, fun p hp => ?_⟩
  · obtain ⟨y, hy, e1⟩ := phi_or true (dq m e) (dq n f) j
    rcases hy with rfl | rfl | ⟨_, h⟩
    · exact ⟨(m, e), by simp, e1.symm⟩
    · exact ⟨(n, f), by simp, e1.symm⟩
    · cases h
  · simp only [List.mem_cons, List.not_mem_nil, or_false] at hp
    rcases hp with rfl | rfl
    · exact l1
    · exact l2
theorem plainD_2 (m1 e1 m2 e2 : Int) (A1 A2 : Option Addr) (c1 c2 : Nat) : Plain #[.bool (ng m1), .slice A1 (zl m1) c1, .int .i64 e1, .bool (ng m2), .slice A2 (zl m2) c2, .int .i64 e2] := fun j x => by
  match j with
  | 0 => simp
  | 1 => simp
  | 2 => simp
  | 3 => simp
  | 4 => simp
  | 5 => simp
  | j + 6 => simp
theorem plainD_z (m1 e1 m2 e2 : Int) (A1 A2 : Option Addr) (c1 c2 : Nat) : Plain #[.bool (ng m1), .slice A1 (zl m1) c1, .int .i64 e1, .bool false, .slice none 0 0, .int .i64 0, .bool (ng m2), .slice A2 (zl m2) c2, .int .i64 e2] := fun j x => by
  match j with
  | 0 => simp
  | 1 => simp
  | 2 => simp
  | 3 => simp
  | 4 => simp
  | 5 => simp
  | 6 => simp
  | 7 => simp
  | 8 => simp
  | j + 9 => simp
theorem rowD_2 {w : World} {g : Nat} {T : TypeId} {m1 e1 m2 e2 : Int} {A1 A2 : Option Addr} {c1 c2 : Nat} (h : Var w g T #[.bool (ng m1), .slice A1 (zl m1) c1, .int .i64 e1, .bool (ng m2), .slice A2 (zl m2) c2, .int .i64 e2]) (i1 : IsN w (.slice A1 (zl m1) c1) m1.natAbs) (i2 : IsN w (.slice A2 (zl m2) c2) m2.natAbs) : RowD w (.slice (some ⟨g, 0, none⟩) 2 2) [(m1, e1), (m2, e2)] := by
  refine ⟨g, 2, rfl, h.lt, fun j p hp => ?_⟩
  match j with
  | 0 =>
    obtain rfl : (m1, e1) = p := by simpa using hp
    exact ⟨A1, c1, h.cell 0, h.cell 1, h.cell 2, i1⟩
  | 1 =>
    obtain rfl : (m2, e2) = p := by simpa using hp
    exact ⟨A2, c2, h.cell 3, h.cell 4, h.cell 5, i2⟩
  | j + 2 => simp at hp
theorem rowD_z {w : World} {g : Nat} {T : TypeId} {m1 e1 m2 e2 : Int} {A1 A2 : Option Addr} {c1 c2 : Nat} (h : Var w g T #[.bool (ng m1), .slice A1 (zl m1) c1, .int .i64 e1, .bool false, .slice none 0 0, .int .i64 0, .bool (ng m2), .slice A2 (zl m2) c2, .int .i64 e2]) (i1 : IsN w (.slice A1 (zl m1) c1) m1.natAbs) (i2 : IsN w (.slice A2 (zl m2) c2) m2.natAbs) : RowD w (.slice (some ⟨g, 0, none⟩) 3 3) [(m1, e1), (0, 0), (m2, e2)] := by
  refine ⟨g, 3, rfl, h.lt, fun j p hp => ?_⟩
  match j with
  | 0 =>
    obtain rfl : (m1, e1) = p := by simpa using hp
    exact ⟨A1, c1, h.cell 0, h.cell 1, h.cell 2, i1⟩
  | 1 =>
    obtain rfl : (0, 0) = p := by simpa using hp
    refine ⟨none, 0, h.cell 3, ?_, h.cell 5, ?_⟩
    · show w.cell? ⟨g, 4, none⟩ = some (.slice none (zl 0) 0)
      rw [zl_zero]; exact h.cell 4
    · show IsN w (.slice none (zl 0) 0) 0
      rw [zl_zero]; exact IsN.zero w
  | 2 =>
    obtain rfl : (m2, e2) = p := by simpa using hp
    exact ⟨A2, c2, h.cell 6, h.cell 7, h.cell 8, i2⟩
  | j + 3 => simp at hp
theorem sg_ne {m n : Int} (hs : cmpI m 0 = cmpI n 0) (h : cmpI m 0 ≠ 0) : m ≠ 0 ∧ n ≠ 0 := by
  constructor <;> intro h0
  · rw [h0] at h; exact h rfl
  · rw [hs, h0] at h; exact h rfl

set_option maxHeartbeats 32000000 in
theorem dpw_any (m e n f j k : Int) (vx : Value) (w : World) (hx : IsI w vx m e n f) (lm : zl m ≤ 400) (ln : zl n ≤ 400) (he : -10000 ≤ e ∧ e ≤ 10000) (hf : -10000 ≤ f ∧ f ≤ 10000) (hv : Dv m e) (hv2 : Dv n f) (hd : dcm m e n f ≤ 0) (hpb : powB j = true → PB m e j ∧ PB n f j) (hk1 : -9223372036854775808 ≤ k) (hk2 : k ≤ 9223372036854775807) (hsm : smallB m e n f = true) (hT : Tab w) :
    Calls Tryz.prog 27 #[vx, .int .i64 j, .int .i64 k] w (RetPw w m e n f j k) := by
  obtain ⟨A, c, B, d, rfl, hn1, hn2⟩ := hx.form
  have L0 := ((Lq.mk0 w).n hn2).n hn1
  have HW0 := fun W => rdperm_any k W
  have HP0 := fun W => rdpow_any j W
  have g1 := fun v W h => i10sign_any m e n f v W h (by omega) (by omega) (by omega) (by omega)
  have g2 := fun v W h => asmall_any m e n f v W h (by omega) (by omega) (by omega) (by omega) hv hv2
  rw [hsm] at g2
  have HT := Lib.hid (fun W (hW : Below w.heap.size w W) => hT.mono hW)
  have HPB := Lib.hid hpb
  unfold RetSg at g1
  unfold RetPw sgB sgV
  have hne := sg_ne (m := m) (n := n)
  obtain ⟨sv, hsv⟩ : ∃ z, (if cmpI m 0 = cmpI n 0 then cmpI m 0 else 0) = z := ⟨_, rfl⟩
  obtain ⟨sb, hsb⟩ : ∃ z, decide (cmpI m 0 = cmpI n 0) = z := ⟨_, rfl⟩
  rw [hsv, hsb] at g1 ⊢
  have HS := Lib.hid g1
  have H2 := Lib.hid g2
  clear g1 g2 hsm hx hn1 hn2 lm ln he hf hv hv2 hd hT hpb
  cases hw : workB k
  · rw [Bool.false_and, if_neg (by decide)]
    rw [hw] at HW0
    have HW := Lib.hid HW0
    clear HW0 HP0 hw hsv hsb hne
    go_enter Tryz.func27, Tryz.ntmps27
    go_wp2_with fail
    have L := ((L0.varI (w.heap.size) (by simp) (ng m) A (zl m) c e (ng n) B (zl n) d f).varI (w.heap.size + 1) (by simp) false none 0 0 0 false none 0 0 0)
    have c00 := L.b0.c60
    have f00 := L.b0.fr 0
    have c01 := L.b0.c61
    have f01 := L.b0.fr 1
    have c02 := L.b0.c62
    have f02 := L.b0.fr 2
    have c03 := L.b0.c63
    have f03 := L.b0.fr 3
    have c04 := L.b0.c64
    have f04 := L.b0.fr 4
    have c05 := L.b0.c65
    have f05 := L.b0.fr 5
    have c10 := L.tl.b0.c60
    have c11 := L.tl.b0.c61
    have c12 := L.tl.b0.c62
    have c13 := L.tl.b0.c63
    have c14 := L.tl.b0.c64
    have c15 := L.tl.b0.c65
    (try go_wp2_with fail)
    refine (HS.out _ _ (isI_n (m := m) (e := e) (n := n) (f := f) (L.getN (v := .slice A (zl m) c) (x := (m).natAbs) (by simp)) (L.getN (v := .slice B (zl n) d) (x := (n).natAbs) (by simp)))).mono ?_
    rintro e w1 ⟨rfl, be⟩
    clear c00 f00 c01 f01 c02 f02 c03 f03 c04 f04 c05 f05 c10 c11 c12 c13 c14 c15
    replace L := L.step be
    clear be
    have c00 := L.b0.c60
    have f00 := L.b0.fr 0
    have c01 := L.b0.c61
    have f01 := L.b0.fr 1
    have c02 := L.b0.c62
    have f02 := L.b0.fr 2
    have c03 := L.b0.c63
    have f03 := L.b0.fr 3
    have c04 := L.b0.c64
    have f04 := L.b0.fr 4
    have c05 := L.b0.c65
    have f05 := L.b0.fr 5
    have c10 := L.tl.b0.c60
    have c11 := L.tl.b0.c61
    have c12 := L.tl.b0.c62
    have c13 := L.tl.b0.c63
    have c14 := L.tl.b0.c64
    have c15 := L.tl.b0.c65
    (try go_wp2_with fail)
    refine (HW.out _).mono ?_
    rintro e9 w' ⟨rfl, rfl⟩
    (try go_wp2_with fail)
    have LP := L.putI (by omega) (by first | (simp; done) | (simp; omega)) false none 0 0 0 false none 0 0 0
    have k0 := LP.b0.c60
    have k1 := LP.b0.c61
    have k2 := LP.b0.c62
    have k3 := LP.b0.c63
    have k4 := LP.b0.c64
    have k5 := LP.b0.c65
    unfold put6 at k0 k1 k2 k3 k4 k5
    exact bodyPost_ret (v := .tuple #[.agg #[.bool false, .slice none 0 0, .int .i64 0, .bool false, .slice none 0 0, .int .i64 0], .int .i64 1]) (by simp [results, Tryz.results27, go_sem, k0, k1, k2, k3, k4, k5]) rfl (RetIE.z LP.below _)
  · rw [hw] at HW0
    have HW := Lib.hid HW0
    clear HW0
    cases hp : powB j
    · rw [Bool.and_false, if_neg (by decide)]
      rw [hp] at HP0
      have HP := Lib.hid HP0
      clear HP0 hw hp hsv hsb hne
      go_enter Tryz.func27, Tryz.ntmps27
      go_wp2_with fail
      have L := ((L0.varI (w.heap.size) (by simp) (ng m) A (zl m) c e (ng n) B (zl n) d f).varI (w.heap.size + 1) (by simp) false none 0 0 0 false none 0 0 0)
      have c00 := L.b0.c60
      have f00 := L.b0.fr 0
      have c01 := L.b0.c61
      have f01 := L.b0.fr 1
      have c02 := L.b0.c62
      have f02 := L.b0.fr 2
      have c03 := L.b0.c63
      have f03 := L.b0.fr 3
      have c04 := L.b0.c64
      have f04 := L.b0.fr 4
      have c05 := L.b0.c65
      have f05 := L.b0.fr 5
      have c10 := L.tl.b0.c60
      have c11 := L.tl.b0.c61
      have c12 := L.tl.b0.c62
      have c13 := L.tl.b0.c63
      have c14 := L.tl.b0.c64
      have c15 := L.tl.b0.c65
      (try go_wp2_with fail)
      refine (HS.out _ _ (isI_n (m := m) (e := e) (n := n) (f := f) (L.getN (v := .slice A (zl m) c) (x := (m).natAbs) (by simp)) (L.getN (v := .slice B (zl n) d) (x := (n).natAbs) (by simp)))).mono ?_
      rintro e w1 ⟨rfl, be⟩
      clear c00 f00 c01 f01 c02 f02 c03 f03 c04 f04 c05 f05 c10 c11 c12 c13 c14 c15
      replace L := L.step be
      clear be
      have c00 := L.b0.c60
      have f00 := L.b0.fr 0
      have c01 := L.b0.c61
      have f01 := L.b0.fr 1
      have c02 := L.b0.c62
      have f02 := L.b0.fr 2
      have c03 := L.b0.c63
      have f03 := L.b0.fr 3
      have c04 := L.b0.c64
      have f04 := L.b0.fr 4
      have c05 := L.b0.c65
      have f05 := L.b0.fr 5
      have c10 := L.tl.b0.c60
      have c11 := L.tl.b0.c61
      have c12 := L.tl.b0.c62
      have c13 := L.tl.b0.c63
      have c14 := L.tl.b0.c64
      have c15 := L.tl.b0.c65
      (try go_wp2_with fail)
      refine (HW.out _).mono ?_
      rintro e9 w' ⟨rfl, rfl⟩
      (try go_wp2_with fail)
      refine (HP.out _).mono ?_
      rintro e9 w' ⟨rfl, rfl⟩
      (try go_wp2_with fail)
      have LP := L.putI (by omega) (by first | (simp; done) | (simp; omega)) false none 0 0 0 false none 0 0 0
      have k0 := LP.b0.c60
      have k1 := LP.b0.c61
      have k2 := LP.b0.c62
      have k3 := LP.b0.c63
      have k4 := LP.b0.c64
      have k5 := LP.b0.c65
      unfold put6 at k0 k1 k2 k3 k4 k5
      exact bodyPost_ret (v := .tuple #[.agg #[.bool false, .slice none 0 0, .int .i64 0, .bool false, .slice none 0 0, .int .i64 0], .int .i64 1]) (by simp [results, Tryz.results27, go_sem, k0, k1, k2, k3, k4, k5]) rfl (RetIE.z LP.below _)
    · rw [Bool.and_true, if_pos rfl]
      rw [hp] at HP0
      have HP := Lib.hid HP0
      obtain ⟨pb1, pb2⟩ := HPB.out hp
      clear HP0 hp HPB
      cases sb
      · rw [if_neg (by rintro ⟨_, h, _⟩; cases h)]
        by_cases hj : j < 0
        · rw [if_pos ⟨hj, rfl⟩]
          have b1 : decide (j < 0) = true := decide_eq_true hj
          clear hw hsv hsb hne hj pb1 pb2
          go_enter Tryz.func27, Tryz.ntmps27
          go_wp2_with fail
          have L := ((L0.varI (w.heap.size) (by simp) (ng m) A (zl m) c e (ng n) B (zl n) d f).varI (w.heap.size + 1) (by simp) false none 0 0 0 false none 0 0 0)
          have c00 := L.b0.c60
          have f00 := L.b0.fr 0
          have c01 := L.b0.c61
          have f01 := L.b0.fr 1
          have c02 := L.b0.c62
          have f02 := L.b0.fr 2
          have c03 := L.b0.c63
          have f03 := L.b0.fr 3
          have c04 := L.b0.c64
          have f04 := L.b0.fr 4
          have c05 := L.b0.c65
          have f05 := L.b0.fr 5
          have c10 := L.tl.b0.c60
          have c11 := L.tl.b0.c61
          have c12 := L.tl.b0.c62
          have c13 := L.tl.b0.c63
          have c14 := L.tl.b0.c64
          have c15 := L.tl.b0.c65
          (try go_wp2_with fail)
          refine (HS.out _ _ (isI_n (m := m) (e := e) (n := n) (f := f) (L.getN (v := .slice A (zl m) c) (x := (m).natAbs) (by simp)) (L.getN (v := .slice B (zl n) d) (x := (n).natAbs) (by simp)))).mono ?_
          rintro e w1 ⟨rfl, be⟩
          clear c00 f00 c01 f01 c02 f02 c03 f03 c04 f04 c05 f05 c10 c11 c12 c13 c14 c15
          replace L := L.step be
          clear be
          have c00 := L.b0.c60
          have f00 := L.b0.fr 0
          have c01 := L.b0.c61
          have f01 := L.b0.fr 1
          have c02 := L.b0.c62
          have f02 := L.b0.fr 2
          have c03 := L.b0.c63
          have f03 := L.b0.fr 3
          have c04 := L.b0.c64
          have f04 := L.b0.fr 4
          have c05 := L.b0.c65
          have f05 := L.b0.fr 5
          have c10 := L.tl.b0.c60
          have c11 := L.tl.b0.c61
          have c12 := L.tl.b0.c62
          have c13 := L.tl.b0.c63
          have c14 := L.tl.b0.c64
          have c15 := L.tl.b0.c65
          (try go_wp2_with fail)
          refine (HW.out _).mono ?_
          rintro e9 w' ⟨rfl, rfl⟩
          (try go_wp2_with fail)
          refine (HP.out _).mono ?_
          rintro e9 w' ⟨rfl, rfl⟩
          (try go_wp2_with fail)
          have LP := L.putI (by omega) (by first | (simp; done) | (simp; omega)) false none 0 0 0 false none 0 0 0
          have k0 := LP.b0.c60
          have k1 := LP.b0.c61
          have k2 := LP.b0.c62
          have k3 := LP.b0.c63
          have k4 := LP.b0.c64
          have k5 := LP.b0.c65
          unfold put6 at k0 k1 k2 k3 k4 k5
          exact bodyPost_ret (v := .tuple #[.agg #[.bool false, .slice none 0 0, .int .i64 0, .bool false, .slice none 0 0, .int .i64 0], .int .i64 5]) (by simp [results, Tryz.results27, go_sem, k0, k1, k2, k3, k4, k5]) rfl (RetIE.z LP.below _)
        · rw [if_neg (fun h => hj h.1)]
          have b1 : decide (j < 0) = false := decide_eq_false hj
          clear hsv hsb hne
          have hop : ∀ p ∈ [(m, e), (0, 0), (n, f)], ∃ (a : Int) (d : Nat), 0 < d ∧ zl a ≤ 800 ∧ len d ≤ 800 ∧ Rat.divInt a (d : Int) = (fun p => pw (dOf p) j) p ∧ ∀ v W, IsD W v p.1 p.2 → Calls Tryz.prog 114 #[v, .int .i64 j] W (RetP W a d) := fun p hp => by
            simp only [List.mem_cons, List.not_mem_nil, or_false] at hp
            rcases hp with rfl | rfl | rfl
            · exact dpow_pair pb1 (fun h => absurd h hj)
            · exact dpow_pair ⟨by rw [zl_zero]; omega, by omega, pb1.2.2.1, by rw [zl_zero]; have := pb1.2.2.1; show (0 + (0 / 32 + 1)) * j.natAbs ≤ 780; omega⟩ (fun h => absurd h hj)
            · exact dpow_pair pb2 (fun h => absurd h hj)
          have HEN := Lib.hid (fun v W (h : RowD W v [(m, e), (0, 0), (n, f)]) (hW : Below w.heap.size w W) => dbetween_any _ _ _ _ j k v W h (by simp) (by simp) hop (pw_least3 m e n f j) (pw_most3 m e n f j) hw (HT.out W hW))
          obtain ⟨lo, hlo⟩ : ∃ z, plo false (dq m e) (dq n f) j = z := ⟨_, rfl⟩
          obtain ⟨hi, hhi⟩ : ∃ z, phi false (dq m e) (dq n f) j = z := ⟨_, rfl⟩
          rw [hlo, hhi] at HEN ⊢
          clear hop hlo hhi hw pb1 pb2 HT
          clear hj
          go_enter Tryz.func27, Tryz.ntmps27
          go_wp2_with fail
          have L := ((L0.varI (w.heap.size) (by simp) (ng m) A (zl m) c e (ng n) B (zl n) d f).varI (w.heap.size + 1) (by simp) false none 0 0 0 false none 0 0 0)
          have c00 := L.b0.c60
          have f00 := L.b0.fr 0
          have c01 := L.b0.c61
          have f01 := L.b0.fr 1
          have c02 := L.b0.c62
          have f02 := L.b0.fr 2
          have c03 := L.b0.c63
          have f03 := L.b0.fr 3
          have c04 := L.b0.c64
          have f04 := L.b0.fr 4
          have c05 := L.b0.c65
          have f05 := L.b0.fr 5
          have c10 := L.tl.b0.c60
          have c11 := L.tl.b0.c61
          have c12 := L.tl.b0.c62
          have c13 := L.tl.b0.c63
          have c14 := L.tl.b0.c64
          have c15 := L.tl.b0.c65
          (try go_wp2_with fail)
          refine (HS.out _ _ (isI_n (m := m) (e := e) (n := n) (f := f) (L.getN (v := .slice A (zl m) c) (x := (m).natAbs) (by simp)) (L.getN (v := .slice B (zl n) d) (x := (n).natAbs) (by simp)))).mono ?_
          rintro e w1 ⟨rfl, be⟩
          clear c00 f00 c01 f01 c02 f02 c03 f03 c04 f04 c05 f05 c10 c11 c12 c13 c14 c15
          replace L := L.step be
          clear be
          have c00 := L.b0.c60
          have f00 := L.b0.fr 0
          have c01 := L.b0.c61
          have f01 := L.b0.fr 1
          have c02 := L.b0.c62
          have f02 := L.b0.fr 2
          have c03 := L.b0.c63
          have f03 := L.b0.fr 3
          have c04 := L.b0.c64
          have f04 := L.b0.fr 4
          have c05 := L.b0.c65
          have f05 := L.b0.fr 5
          have c10 := L.tl.b0.c60
          have c11 := L.tl.b0.c61
          have c12 := L.tl.b0.c62
          have c13 := L.tl.b0.c63
          have c14 := L.tl.b0.c64
          have c15 := L.tl.b0.c65
          (try go_wp2_with fail)
          refine (HW.out _).mono ?_
          rintro e9 w' ⟨rfl, rfl⟩
          (try go_wp2_with fail)
          refine (HP.out _).mono ?_
          rintro e9 w' ⟨rfl, rfl⟩
          (try go_wp2_with fail)
          refine (H2.out _ _ (isI_n (m := m) (e := e) (n := n) (f := f) (L.getN (v := .slice A (zl m) c) (x := (m).natAbs) (by simp)) (L.getN (v := .slice B (zl n) d) (x := (n).natAbs) (by simp)))).mono ?_
          rintro e w2 ⟨rfl, be⟩
          clear c00 f00 c01 f01 c02 f02 c03 f03 c04 f04 c05 f05 c10 c11 c12 c13 c14 c15
          replace L := L.step be
          clear be
          have c00 := L.b0.c60
          have f00 := L.b0.fr 0
          have c01 := L.b0.c61
          have f01 := L.b0.fr 1
          have c02 := L.b0.c62
          have f02 := L.b0.fr 2
          have c03 := L.b0.c63
          have f03 := L.b0.fr 3
          have c04 := L.b0.c64
          have f04 := L.b0.fr 4
          have c05 := L.b0.c65
          have f05 := L.b0.fr 5
          have c10 := L.tl.b0.c60
          have c11 := L.tl.b0.c61
          have c12 := L.tl.b0.c62
          have c13 := L.tl.b0.c63
          have c14 := L.tl.b0.c64
          have c15 := L.tl.b0.c65
          go_wp2_with fail
          clear c00 f00 c01 f01 c02 f02 c03 f03 c04 f04 c05 f05 c10 c11 c12 c13 c14 c15
          replace L := L.var w2.heap.size rfl 26 #[.bool (ng m), .slice A (zl m) c, .int .i64 e, .bool false, .slice none 0 0, .int .i64 0, .bool (ng n), .slice B (zl n) d, .int .i64 f] (plainD_z _ _ _ _ _ _ _ _)
          refine (HEN.out _ _ (rowD_z L.b0 (L.getN (by simp)) (L.getN (by simp))) L.below).mono ?_
          intro e9 w19 hen
          obtain ⟨v19, er, m9, e9', n9, f9, rfl, ii, be, hback⟩ := hen.form
          obtain ⟨A5, c5, B5, d5, rfl, ia, ib⟩ := ii.form
          replace L := (((L.step be).n ib).n ia).pick [(w.heap.size + 1, 28, #[.bool false, .slice none 0 0, .int .i64 0, .bool false, .slice none 0 0, .int .i64 0])] (by simp)
          clear be ii ia ib hen
          have HBK := Lib.hid hback
          clear hback
          have c00 := L.b0.c60
          have f00 := L.b0.fr 0
          have c01 := L.b0.c61
          have f01 := L.b0.fr 1
          have c02 := L.b0.c62
          have f02 := L.b0.fr 2
          have c03 := L.b0.c63
          have f03 := L.b0.fr 3
          have c04 := L.b0.c64
          have f04 := L.b0.fr 4
          have c05 := L.b0.c65
          have f05 := L.b0.fr 5
          go_wp2_with fail
          have LP := L.putI (by omega) (by first | (simp; done) | (simp; omega)) (ng m9) A5 (zl m9) c5 e9' (ng n9) B5 (zl n9) d5 f9
          have k0' := LP.b0.c60
          have k1' := LP.b0.c61
          have k2' := LP.b0.c62
          have k3' := LP.b0.c63
          have k4' := LP.b0.c64
          have k5' := LP.b0.c65
          unfold put6 at k0' k1' k2' k3' k4' k5'
          exact bodyPost_ret (v := .tuple #[.agg #[.bool (ng m9), .slice A5 (zl m9) c5, .int .i64 e9', .bool (ng n9), .slice B5 (zl n9) d5, .int .i64 f9], .int .i64 er]) (by simp [results, Tryz.results27, go_sem, k0', k1', k2', k3', k4', k5']) rfl (HBK.out _ _ _ (isI_n (LP.getN (by simp)) (LP.getN (by simp))) LP.below)
      · have hs := of_decide_eq_true hsb
        rw [if_pos hs] at hsv
        by_cases hj : j < 0
        · have b1 : decide (j < 0) = true := decide_eq_true hj
          by_cases hv0 : sv = 0
          · rw [if_pos ⟨hj, rfl, hv0⟩]
            have b2 : (sv == 0) = true := by simpa using hv0
            clear hw hsv hsb hne hj hs hv0 pb1 pb2
            go_enter Tryz.func27, Tryz.ntmps27
            go_wp2_with fail
            have L := ((L0.varI (w.heap.size) (by simp) (ng m) A (zl m) c e (ng n) B (zl n) d f).varI (w.heap.size + 1) (by simp) false none 0 0 0 false none 0 0 0)
            have c00 := L.b0.c60
            have f00 := L.b0.fr 0
            have c01 := L.b0.c61
            have f01 := L.b0.fr 1
            have c02 := L.b0.c62
            have f02 := L.b0.fr 2
            have c03 := L.b0.c63
            have f03 := L.b0.fr 3
            have c04 := L.b0.c64
            have f04 := L.b0.fr 4
            have c05 := L.b0.c65
            have f05 := L.b0.fr 5
            have c10 := L.tl.b0.c60
            have c11 := L.tl.b0.c61
            have c12 := L.tl.b0.c62
            have c13 := L.tl.b0.c63
            have c14 := L.tl.b0.c64
            have c15 := L.tl.b0.c65
            (try go_wp2_with fail)
            refine (HS.out _ _ (isI_n (m := m) (e := e) (n := n) (f := f) (L.getN (v := .slice A (zl m) c) (x := (m).natAbs) (by simp)) (L.getN (v := .slice B (zl n) d) (x := (n).natAbs) (by simp)))).mono ?_
            rintro e w1 ⟨rfl, be⟩
            clear c00 f00 c01 f01 c02 f02 c03 f03 c04 f04 c05 f05 c10 c11 c12 c13 c14 c15
            replace L := L.step be
            clear be
            have c00 := L.b0.c60
            have f00 := L.b0.fr 0
            have c01 := L.b0.c61
            have f01 := L.b0.fr 1
            have c02 := L.b0.c62
            have f02 := L.b0.fr 2
            have c03 := L.b0.c63
            have f03 := L.b0.fr 3
            have c04 := L.b0.c64
            have f04 := L.b0.fr 4
            have c05 := L.b0.c65
            have f05 := L.b0.fr 5
            have c10 := L.tl.b0.c60
            have c11 := L.tl.b0.c61
            have c12 := L.tl.b0.c62
            have c13 := L.tl.b0.c63
            have c14 := L.tl.b0.c64
            have c15 := L.tl.b0.c65
            (try go_wp2_with fail)
            refine (HW.out _).mono ?_
            rintro e9 w' ⟨rfl, rfl⟩
            (try go_wp2_with fail)
            refine (HP.out _).mono ?_
            rintro e9 w' ⟨rfl, rfl⟩
            (try go_wp2_with fail)
            have LP := L.putI (by omega) (by first | (simp; done) | (simp; omega)) false none 0 0 0 false none 0 0 0
            have k0 := LP.b0.c60
            have k1 := LP.b0.c61
            have k2 := LP.b0.c62
            have k3 := LP.b0.c63
            have k4 := LP.b0.c64
            have k5 := LP.b0.c65
            unfold put6 at k0 k1 k2 k3 k4 k5
            exact bodyPost_ret (v := .tuple #[.agg #[.bool false, .slice none 0 0, .int .i64 0, .bool false, .slice none 0 0, .int .i64 0], .int .i64 2]) (by simp [results, Tryz.results27, go_sem, k0, k1, k2, k3, k4, k5]) rfl (RetIE.z LP.below _)
          · rw [if_neg (fun h => hv0 h.2.2), if_neg (by rintro ⟨_, h⟩; cases h)]
            have b2 : (sv == 0) = false := by simpa using hv0
            have hnz : j < 0 → m ≠ 0 ∧ n ≠ 0 := fun _ => hne hs (by rw [hsv]; exact hv0)
            clear hsv hsb hne hs hv0 hj
            have hop : ∀ p ∈ [(m, e), (n, f)], ∃ (a : Int) (d : Nat), 0 < d ∧ zl a ≤ 800 ∧ len d ≤ 800 ∧ Rat.divInt a (d : Int) = (fun p => pw (dOf p) j) p ∧ ∀ v W, IsD W v p.1 p.2 → Calls Tryz.prog 114 #[v, .int .i64 j] W (RetP W a d) := fun p hp => by
              simp only [List.mem_cons, List.not_mem_nil, or_false] at hp
              rcases hp with rfl | rfl
              · exact dpow_pair pb1 (fun h => (hnz h).1)
              · exact dpow_pair pb2 (fun h => (hnz h).2)
            have HEN := Lib.hid (fun v W (h : RowD W v [(m, e), (n, f)]) (hW : Below w.heap.size w W) => dbetween_any _ _ _ _ j k v W h (by simp) (by simp) hop (pw_least2 m e n f j) (pw_most2 m e n f j) hw (HT.out W hW))
            obtain ⟨lo, hlo⟩ : ∃ z, plo true (dq m e) (dq n f) j = z := ⟨_, rfl⟩
            obtain ⟨hi, hhi⟩ : ∃ z, phi true (dq m e) (dq n f) j = z := ⟨_, rfl⟩
            rw [hlo, hhi] at HEN ⊢
            clear hop hlo hhi hw pb1 pb2 HT
            clear hnz
            go_enter Tryz.func27, Tryz.ntmps27
            go_wp2_with fail
            have L := ((L0.varI (w.heap.size) (by simp) (ng m) A (zl m) c e (ng n) B (zl n) d f).varI (w.heap.size + 1) (by simp) false none 0 0 0 false none 0 0 0)
            have c00 := L.b0.c60
            have f00 := L.b0.fr 0
            have c01 := L.b0.c61
            have f01 := L.b0.fr 1
            have c02 := L.b0.c62
            have f02 := L.b0.fr 2
            have c03 := L.b0.c63
            have f03 := L.b0.fr 3
            have c04 := L.b0.c64
            have f04 := L.b0.fr 4
            have c05 := L.b0.c65
            have f05 := L.b0.fr 5
            have c10 := L.tl.b0.c60
            have c11 := L.tl.b0.c61
            have c12 := L.tl.b0.c62
            have c13 := L.tl.b0.c63
            have c14 := L.tl.b0.c64
            have c15 := L.tl.b0.c65
            (try go_wp2_with fail)
            refine (HS.out _ _ (isI_n (m := m) (e := e) (n := n) (f := f) (L.getN (v := .slice A (zl m) c) (x := (m).natAbs) (by simp)) (L.getN (v := .slice B (zl n) d) (x := (n).natAbs) (by simp)))).mono ?_
            rintro e w1 ⟨rfl, be⟩
            clear c00 f00 c01 f01 c02 f02 c03 f03 c04 f04 c05 f05 c10 c11 c12 c13 c14 c15
            replace L := L.step be
            clear be
            have c00 := L.b0.c60
            have f00 := L.b0.fr 0
            have c01 := L.b0.c61
            have f01 := L.b0.fr 1
            have c02 := L.b0.c62
            have f02 := L.b0.fr 2
            have c03 := L.b0.c63
            have f03 := L.b0.fr 3
            have c04 := L.b0.c64
            have f04 := L.b0.fr 4
            have c05 := L.b0.c65
            have f05 := L.b0.fr 5
            have c10 := L.tl.b0.c60
            have c11 := L.tl.b0.c61
            have c12 := L.tl.b0.c62
            have c13 := L.tl.b0.c63
            have c14 := L.tl.b0.c64
            have c15 := L.tl.b0.c65
            (try go_wp2_with fail)
            refine (HW.out _).mono ?_
            rintro e9 w' ⟨rfl, rfl⟩
            (try go_wp2_with fail)
            refine (HP.out _).mono ?_
            rintro e9 w' ⟨rfl, rfl⟩
            (try go_wp2_with fail)
            refine (H2.out _ _ (isI_n (m := m) (e := e) (n := n) (f := f) (L.getN (v := .slice A (zl m) c) (x := (m).natAbs) (by simp)) (L.getN (v := .slice B (zl n) d) (x := (n).natAbs) (by simp)))).mono ?_
            rintro e w2 ⟨rfl, be⟩
            clear c00 f00 c01 f01 c02 f02 c03 f03 c04 f04 c05 f05 c10 c11 c12 c13 c14 c15
            replace L := L.step be
            clear be
            have c00 := L.b0.c60
            have f00 := L.b0.fr 0
            have c01 := L.b0.c61
            have f01 := L.b0.fr 1
            have c02 := L.b0.c62
            have f02 := L.b0.fr 2
            have c03 := L.b0.c63
            have f03 := L.b0.fr 3
            have c04 := L.b0.c64
            have f04 := L.b0.fr 4
            have c05 := L.b0.c65
            have f05 := L.b0.fr 5
            have c10 := L.tl.b0.c60
            have c11 := L.tl.b0.c61
            have c12 := L.tl.b0.c62
            have c13 := L.tl.b0.c63
            have c14 := L.tl.b0.c64
            have c15 := L.tl.b0.c65
            go_wp2_with fail
            clear c00 f00 c01 f01 c02 f02 c03 f03 c04 f04 c05 f05 c10 c11 c12 c13 c14 c15
            replace L := L.var w2.heap.size rfl 26 #[.bool (ng m), .slice A (zl m) c, .int .i64 e, .bool (ng n), .slice B (zl n) d, .int .i64 f] (plainD_2 _ _ _ _ _ _ _ _)
            refine (HEN.out _ _ (rowD_2 L.b0 (L.getN (by simp)) (L.getN (by simp))) L.below).mono ?_
            intro e9 w19 hen
            obtain ⟨v19, er, m9, e9', n9, f9, rfl, ii, be, hback⟩ := hen.form
            obtain ⟨A5, c5, B5, d5, rfl, ia, ib⟩ := ii.form
            replace L := (((L.step be).n ib).n ia).pick [(w.heap.size + 1, 28, #[.bool false, .slice none 0 0, .int .i64 0, .bool false, .slice none 0 0, .int .i64 0])] (by simp)
            clear be ii ia ib hen
            have HBK := Lib.hid hback
            clear hback
            have c00 := L.b0.c60
            have f00 := L.b0.fr 0
            have c01 := L.b0.c61
            have f01 := L.b0.fr 1
            have c02 := L.b0.c62
            have f02 := L.b0.fr 2
            have c03 := L.b0.c63
            have f03 := L.b0.fr 3
            have c04 := L.b0.c64
            have f04 := L.b0.fr 4
            have c05 := L.b0.c65
            have f05 := L.b0.fr 5
            go_wp2_with fail
            have LP := L.putI (by omega) (by first | (simp; done) | (simp; omega)) (ng m9) A5 (zl m9) c5 e9' (ng n9) B5 (zl n9) d5 f9
            have k0' := LP.b0.c60
            have k1' := LP.b0.c61
            have k2' := LP.b0.c62
            have k3' := LP.b0.c63
            have k4' := LP.b0.c64
            have k5' := LP.b0.c65
            unfold put6 at k0' k1' k2' k3' k4' k5'
            exact bodyPost_ret (v := .tuple #[.agg #[.bool (ng m9), .slice A5 (zl m9) c5, .int .i64 e9', .bool (ng n9), .slice B5 (zl n9) d5, .int .i64 f9], .int .i64 er]) (by simp [results, Tryz.results27, go_sem, k0', k1', k2', k3', k4', k5']) rfl (HBK.out _ _ _ (isI_n (LP.getN (by simp)) (LP.getN (by simp))) LP.below)
        · rw [if_neg (fun h => hj h.1), if_neg (fun h => hj h.1)]
          have b1 : decide (j < 0) = false := decide_eq_false hj
          have hnz : j < 0 → m ≠ 0 ∧ n ≠ 0 := fun h => absurd h hj
          clear hsv hsb hne hs hj
          have hop : ∀ p ∈ [(m, e), (n, f)], ∃ (a : Int) (d : Nat), 0 < d ∧ zl a ≤ 800 ∧ len d ≤ 800 ∧ Rat.divInt a (d : Int) = (fun p => pw (dOf p) j) p ∧ ∀ v W, IsD W v p.1 p.2 → Calls Tryz.prog 114 #[v, .int .i64 j] W (RetP W a d) := fun p hp => by
            simp only [List.mem_cons, List.not_mem_nil, or_false] at hp
            rcases hp with rfl | rfl
            · exact dpow_pair pb1 (fun h => (hnz h).1)
            · exact dpow_pair pb2 (fun h => (hnz h).2)
          have HEN := Lib.hid (fun v W (h : RowD W v [(m, e), (n, f)]) (hW : Below w.heap.size w W) => dbetween_any _ _ _ _ j k v W h (by simp) (by simp) hop (pw_least2 m e n f j) (pw_most2 m e n f j) hw (HT.out W hW))
          obtain ⟨lo, hlo⟩ : ∃ z, plo true (dq m e) (dq n f) j = z := ⟨_, rfl⟩
          obtain ⟨hi, hhi⟩ : ∃ z, phi true (dq m e) (dq n f) j = z := ⟨_, rfl⟩
          rw [hlo, hhi] at HEN ⊢
          clear hop hlo hhi hw pb1 pb2 HT
          clear hnz
          go_enter Tryz.func27, Tryz.ntmps27
          go_wp2_with fail
          have L := ((L0.varI (w.heap.size) (by simp) (ng m) A (zl m) c e (ng n) B (zl n) d f).varI (w.heap.size + 1) (by simp) false none 0 0 0 false none 0 0 0)
          have c00 := L.b0.c60
          have f00 := L.b0.fr 0
          have c01 := L.b0.c61
          have f01 := L.b0.fr 1
          have c02 := L.b0.c62
          have f02 := L.b0.fr 2
          have c03 := L.b0.c63
          have f03 := L.b0.fr 3
          have c04 := L.b0.c64
          have f04 := L.b0.fr 4
          have c05 := L.b0.c65
          have f05 := L.b0.fr 5
          have c10 := L.tl.b0.c60
          have c11 := L.tl.b0.c61
          have c12 := L.tl.b0.c62
          have c13 := L.tl.b0.c63
          have c14 := L.tl.b0.c64
          have c15 := L.tl.b0.c65
          (try go_wp2_with fail)
          refine (HS.out _ _ (isI_n (m := m) (e := e) (n := n) (f := f) (L.getN (v := .slice A (zl m) c) (x := (m).natAbs) (by simp)) (L.getN (v := .slice B (zl n) d) (x := (n).natAbs) (by simp)))).mono ?_
          rintro e w1 ⟨rfl, be⟩
          clear c00 f00 c01 f01 c02 f02 c03 f03 c04 f04 c05 f05 c10 c11 c12 c13 c14 c15
          replace L := L.step be
          clear be
          have c00 := L.b0.c60
          have f00 := L.b0.fr 0
          have c01 := L.b0.c61
          have f01 := L.b0.fr 1
          have c02 := L.b0.c62
          have f02 := L.b0.fr 2
          have c03 := L.b0.c63
          have f03 := L.b0.fr 3
          have c04 := L.b0.c64
          have f04 := L.b0.fr 4
          have c05 := L.b0.c65
          have f05 := L.b0.fr 5
          have c10 := L.tl.b0.c60
          have c11 := L.tl.b0.c61
          have c12 := L.tl.b0.c62
          have c13 := L.tl.b0.c63
          have c14 := L.tl.b0.c64
          have c15 := L.tl.b0.c65
          (try go_wp2_with fail)
          refine (HW.out _).mono ?_
          rintro e9 w' ⟨rfl, rfl⟩
          (try go_wp2_with fail)
          refine (HP.out _).mono ?_
          rintro e9 w' ⟨rfl, rfl⟩
          (try go_wp2_with fail)
          refine (H2.out _ _ (isI_n (m := m) (e := e) (n := n) (f := f) (L.getN (v := .slice A (zl m) c) (x := (m).natAbs) (by simp)) (L.getN (v := .slice B (zl n) d) (x := (n).natAbs) (by simp)))).mono ?_
          rintro e w2 ⟨rfl, be⟩
          clear c00 f00 c01 f01 c02 f02 c03 f03 c04 f04 c05 f05 c10 c11 c12 c13 c14 c15
          replace L := L.step be
          clear be
          have c00 := L.b0.c60
          have f00 := L.b0.fr 0
          have c01 := L.b0.c61
          have f01 := L.b0.fr 1
          have c02 := L.b0.c62
          have f02 := L.b0.fr 2
          have c03 := L.b0.c63
          have f03 := L.b0.fr 3
          have c04 := L.b0.c64
          have f04 := L.b0.fr 4
          have c05 := L.b0.c65
          have f05 := L.b0.fr 5
          have c10 := L.tl.b0.c60
          have c11 := L.tl.b0.c61
          have c12 := L.tl.b0.c62
          have c13 := L.tl.b0.c63
          have c14 := L.tl.b0.c64
          have c15 := L.tl.b0.c65
          go_wp2_with fail
          clear c00 f00 c01 f01 c02 f02 c03 f03 c04 f04 c05 f05 c10 c11 c12 c13 c14 c15
          replace L := L.var w2.heap.size rfl 26 #[.bool (ng m), .slice A (zl m) c, .int .i64 e, .bool (ng n), .slice B (zl n) d, .int .i64 f] (plainD_2 _ _ _ _ _ _ _ _)
          refine (HEN.out _ _ (rowD_2 L.b0 (L.getN (by simp)) (L.getN (by simp))) L.below).mono ?_
          intro e9 w19 hen
          obtain ⟨v19, er, m9, e9', n9, f9, rfl, ii, be, hback⟩ := hen.form
          obtain ⟨A5, c5, B5, d5, rfl, ia, ib⟩ := ii.form
          replace L := (((L.step be).n ib).n ia).pick [(w.heap.size + 1, 28, #[.bool false, .slice none 0 0, .int .i64 0, .bool false, .slice none 0 0, .int .i64 0])] (by simp)
          clear be ii ia ib hen
          have HBK := Lib.hid hback
          clear hback
          have c00 := L.b0.c60
          have f00 := L.b0.fr 0
          have c01 := L.b0.c61
          have f01 := L.b0.fr 1
          have c02 := L.b0.c62
          have f02 := L.b0.fr 2
          have c03 := L.b0.c63
          have f03 := L.b0.fr 3
          have c04 := L.b0.c64
          have f04 := L.b0.fr 4
          have c05 := L.b0.c65
          have f05 := L.b0.fr 5
          go_wp2_with fail
          have LP := L.putI (by omega) (by first | (simp; done) | (simp; omega)) (ng m9) A5 (zl m9) c5 e9' (ng n9) B5 (zl n9) d5 f9
          have k0' := LP.b0.c60
          have k1' := LP.b0.c61
          have k2' := LP.b0.c62
          have k3' := LP.b0.c63
          have k4' := LP.b0.c64
          have k5' := LP.b0.c65
          unfold put6 at k0' k1' k2' k3' k4' k5'
          exact bodyPost_ret (v := .tuple #[.agg #[.bool (ng m9), .slice A5 (zl m9) c5, .int .i64 e9', .bool (ng n9), .slice B5 (zl n9) d5, .int .i64 f9], .int .i64 er]) (by simp [results, Tryz.results27, go_sem, k0', k1', k2', k3', k4', k5']) rfl (HBK.out _ _ _ (isI_n (LP.getN (by simp)) (LP.getN (by simp))) LP.below)

end Go.Proofs.YthfabjpbdgieoaaGreatDoor
