/- Joined: RdPE, RdT, ArApp (what the law leans on). -/
import Derived.Test.YtfnklkdbieikeaaGreatDoorBaseE
import Derived.Test.YtfnklkdbieikeaaGreatDoorBaseW
import Derived.Test.YtfnklkdbieikeaaGreatDoorBaseX
import Derived.Test.YtfnklkdbieikeaaGreatDoorBaseZ
import Derived.Test.YtfnklkdbieikeaaGreatDoorJQ6
import Derived.Test.YtfnklkdbieikeaaGreatDoorJQ7
import Derived.Deep.DrawnRows
import Derived.Deep.RegionHeld3
import Derived.Laws.AppendOwn
import Derived.Laws.OwnMore
import Derived.Lib.SmallJoins
namespace Go.Proofs.YtfnklkdbieikeaaGreatDoor
open Go.RowKit
set_option linter.unusedVariables false
set_option linter.unusedSimpArgs false
set_option maxRecDepth 100000
attribute [local go_sem ↓] Go.wp_at_zero Go.wp_at_succ

def sgB (m n : Int) : Bool := decide (cmpI m 0 = cmpI n 0)
def sgV (m n : Int) : Int := if cmpI m 0 = cmpI n 0 then cmpI m 0 else 0
/-- What Power returns. -/
def RetPw (w : World) (m e n f j k : Int) : Ending → World → Prop := if (workB k && powB j) = true then (if j < 0 ∧ sgB m n = true ∧ sgV m n = 0 then RetIE w 0 0 0 0 2 else if j < 0 ∧ sgB m n = false then RetIE w 0 0 0 0 5 else RetEn w (plo (sgB m n) (dq m e) (dq n f) j) (phi (sgB m n) (dq m e) (dq n f) j) k) else RetIE w 0 0 0 0 1
theorem pw_least3 (m e n f j : Int) : Least [(m, e), (0, 0), (n, f)] (fun p => pw (dOf p) j) (plo false (dq m e) (dq n f) j) := by
  have hz : dOf (0, 0) = 0 := dq_zero 0
  obtain ⟨l1, l2, l3⟩ := plo_le false (dq m e) (dq n f) j
  refine ⟨?_, fun p hp => ?_⟩
  · obtain ⟨y, hy, e1⟩ := plo_or false (dq m e) (dq n f) j
    rcases hy with rfl | rfl | ⟨rfl, _⟩
    · exact ⟨(m, e), by simp, e1.symm⟩
    · exact ⟨(n, f), by simp, e1.symm⟩
    · exact ⟨(0, 0), by simp, by rw [e1]; show pw (dOf (0, 0)) j = pw 0 j; rw [hz]⟩
  · simp only [List.mem_cons, List.not_mem_nil, or_false] at hp
    rcases hp with rfl | rfl | rfl
    · exact l1
    · show _ ≤ pw (dOf (0, 0)) j
      rw [hz]; exact l3 rfl
    · exact l2
theorem pw_most3 (m e n f j : Int) : Most [(m, e), (0, 0), (n, f)] (fun p => pw (dOf p) j) (phi false (dq m e) (dq n f) j) := by
  have hz : dOf (0, 0) = 0 := dq_zero 0
  obtain ⟨l1, l2, l3⟩ := le_phi false (dq m e) (dq n f) j
  refine ⟨?_, fun p hp => ?_⟩
  · obtain ⟨y, hy, e1⟩ := phi_or false (dq m e) (dq n f) j
    rcases hy with rfl | rfl | ⟨rfl, _⟩
    · exact ⟨(m, e), by simp, e1.symm⟩
    · exact ⟨(n, f), by simp, e1.symm⟩
    · exact ⟨(0, 0), by simp, by rw [e1]; show pw (dOf (0, 0)) j = pw 0 j; rw [hz]⟩
  · simp only [List.mem_cons, List.not_mem_nil, or_false] at hp
    rcases hp with rfl | rfl | rfl
    · exact l1
    · show pw (dOf (0, 0)) j ≤ _
      rw [hz]; exact l3 rfl
    · exact l2
theorem pw_least2 (m e n f j : Int) : Least [(m, e), (n, f)] (fun p => pw (dOf p) j) (plo true (dq m e) (dq n f) j) := by
  obtain ⟨l1, l2, _⟩ := plo_le true (dq m e) (dq n f) j
  refine ⟨?_, fun p hp => ?_⟩
  · obtain ⟨y, hy, e1⟩ := plo_or true (dq m e) (dq n f) j
    rcases hy with rfl | rfl | ⟨_, h⟩
    · exact ⟨(m, e), by simp, e1.symm⟩
    · exact ⟨(n, f), by simp, e1.symm⟩
    · cases h
  · simp only [List.mem_cons, List.not_mem_nil, or_false] at hp
    rcases hp with rfl | rfl
    · exact l1
    · exact l2
theorem pw_most2 (m e n f j : Int) : Most [(m, e), (n, f)] (fun p => pw (dOf p) j) (phi true (dq m e) (dq n f) j) := by
  obtain ⟨l1, l2, _⟩ := le_phi true (dq m e) (dq n f) j
  refine ⟨?_, fun p hp => ?_⟩
  · obtain ⟨y, hy, e1⟩ := phi_or true (dq m e) (dq n f) j
    rcases hy with rfl | rfl | ⟨_, h⟩
    · exact ⟨(m, e), by simp, e1.symm⟩
    · exact ⟨(n, f), by simp, e1.symm⟩
    · cases h
  · simp only [List.mem_cons, List.not_mem_nil, or_false] at hp
    rcases hp with rfl | rfl
    · exact l1
    · exact l2
theorem plainD_2 (m1 e1 m2 e2 : Int) (A1 A2 : Option Addr) (c1 c2 : Nat) : Plain #[.bool (ng m1), .slice A1 (zl m1) c1, .int .i64 e1, .bool (ng m2), .slice A2 (zl m2) c2, .int .i64 e2] := fun j x => by
  match j with
  | 0 => simp
  | 1 => simp
  | 2 => simp
  | 3 => simp
  | 4 => simp
  | 5 => simp
  | j + 6 => simp
theorem plainD_z (m1 e1 m2 e2 : Int) (A1 A2 : Option Addr) (c1 c2 : Nat) : Plain #[.bool (ng m1), .slice A1 (zl m1) c1, .int .i64 e1, .bool false, .slice none 0 0, .int .i64 0, .bool (ng m2), .slice A2 (zl m2) c2, .int .i64 e2] := fun j x => by
  match j with
  | 0 => simp
  | 1 => simp
  | 2 => simp
  | 3 => simp
  | 4 => simp
  | 5 => simp
  | 6 => simp
  | 7 => simp
  | 8 => simp
  | j + 9 => simp
theorem rowD_2 {w : World} {g : Nat} {T : TypeId} {m1 e1 m2 e2 : Int} {A1 A2 : Option Addr} {c1 c2 : Nat} (h : Var w g T #[.bool (ng m1), .slice A1 (zl m1) c1, .int .i64 e1, .bool (ng m2), .slice A2 (zl m2) c2, .int .i64 e2]) (i1 : IsN w (.slice A1 (zl m1) c1) m1.natAbs) (i2 : IsN w (.slice A2 (zl m2) c2) m2.natAbs) : RowD w (.slice (some ⟨g, 0, none⟩) 2 2) [(m1, e1), (m2, e2)] := by
  refine ⟨g, 2, rfl, h.lt, fun j p hp => ?_⟩
  match j with
  | 0 =>
    obtain rfl : (m1, e1) = p := by simpa using hp
    exact ⟨A1, c1, h.cell 0, h.cell 1, h.cell 2, i1⟩
  | 1 =>
    obtain rfl : (m2, e2) = p := by simpa using hp
    exact ⟨A2, c2, h.cell 3, h.cell 4, h.cell 5, i2⟩
  | j + 2 => simp at hp
theorem rowD_z {w : World} {g : Nat} {T : TypeId} {m1 e1 m2 e2 : Int} {A1 A2 : Option Addr} {c1 c2 : Nat} (h : Var w g T #[.bool (ng m1), .slice A1 (zl m1) c1, .int .i64 e1, .bool false, .slice none 0 0, .int .i64 0, .bool (ng m2), .slice A2 (zl m2) c2, .int .i64 e2]) (i1 : IsN w (.slice A1 (zl m1) c1) m1.natAbs) (i2 : IsN w (.slice A2 (zl m2) c2) m2.natAbs) : RowD w (.slice (some ⟨g, 0, none⟩) 3 3) [(m1, e1), (0, 0), (m2, e2)] := by
  refine ⟨g, 3, rfl, h.lt, fun j p hp => ?_⟩
  match j with
  | 0 =>
    obtain rfl : (m1, e1) = p := by simpa using hp
    exact ⟨A1, c1, h.cell 0, h.cell 1, h.cell 2, i1⟩
  | 1 =>
    obtain rfl : (0, 0) = p := by simpa using hp
    refine ⟨none, 0, h.cell 3, ?_, h.cell 5, ?_⟩
    · show w.cell? ⟨g, 4, none⟩ = some (.slice none (zl 0) 0)
      rw [zl_zero]; exact h.cell 4
    · show IsN w (.slice none (zl 0) 0) 0
      rw [zl_zero]; exact IsN.zero w
  | 2 =>
    obtain rfl : (m2, e2) = p := by simpa using hp
    exact ⟨A2, c2, h.cell 6, h.cell 7, h.cell 8, i2⟩
  | j + 3 => simp at hp
theorem sg_ne {m n : Int} (hs : cmpI m 0 = cmpI n 0) (h : cmpI m 0 ≠ 0) : m ≠ 0 ∧ n ≠ 0 := by
  constructor <;> intro h0
  · rw [h0] at h; exact h rfl
  · rw [hs, h0] at h; exact h rfl

set_option maxHeartbeats 32000000 in
theorem dpw_any (m e n f j k : Int) (vx : Value) (w : World) (hx : IsI w vx m e n f) (lm : zl m ≤ 400) (ln : zl n ≤ 400) (he : -10000 ≤ e ∧ e ≤ 10000) (hf : -10000 ≤ f ∧ f ≤ 10000) (hv : Dv m e) (hv2 : Dv n f) (hd : dcm m e n f ≤ 0) (hpb : powB j = true → PB m e j ∧ PB n f j) (hk1 : -9223372036854775808 ≤ k) (hk2 : k ≤ 9223372036854775807) (hsm : smallB m e n f = true) (hT : Tab w) :
    Calls Tryz.prog 23 #[vx, .int .i64 j, .int .i64 k] w (RetPw w m e n f j k) := by
  obtain ⟨A, c, B, d, rfl, hn1, hn2⟩ := hx.form
  have L0 := ((Lq.mk0 w).n hn2).n hn1
  have HW0 := fun W => rdperm_any k W
  have HP0 := fun W => rdpow_any j W
  have g1 := fun v W h => i10sign_any m e n f v W h (by omega) (by omega) (by omega) (by omega)
  have g2 := fun v W h => asmall_any m e n f v W h (by omega) (by omega) (by omega) (by omega) hv hv2
  rw [hsm] at g2
  have HT := Lib.hid (fun W (hW : Below w.heap.size w W) => hT.mono hW)
  have HPB := Lib.hid hpb
  unfold RetSg at g1
  unfold RetPw sgB sgV
  have hne := sg_ne (m := m) (n := n)
  obtain ⟨sv, hsv⟩ : ∃ z, (if cmpI m 0 = cmpI n 0 then cmpI m 0 else 0) = z := ⟨_, rfl⟩
  obtain ⟨sb, hsb⟩ : ∃ z, decide (cmpI m 0 = cmpI n 0) = z := ⟨_, rfl⟩
  rw [hsv, hsb] at g1 ⊢
  have HS := Lib.hid g1
  have H2 := Lib.hid g2
  clear g1 g2 hsm hx hn1 hn2 lm ln he hf hv hv2 hd hT hpb
  cases hw : workB k
  · rw [Bool.false_and, if_neg (by decide)]
    rw [hw] at HW0
    have HW := Lib.hid HW0
    clear HW0 HP0 hw hsv hsb hne
    go_enter Tryz.func23, Tryz.ntmps23
    go_wp2_with fail
    have L := ((L0.varI (w.heap.size) (by simp) (ng m) A (zl m) c e (ng n) B (zl n) d f).varI (w.heap.size + 1) (by simp) false none 0 0 0 false none 0 0 0)
    have c00 := L.b0.c60
    have f00 := L.b0.fr 0
    have c01 := L.b0.c61
    have f01 := L.b0.fr 1
    have c02 := L.b0.c62
    have f02 := L.b0.fr 2
    have c03 := L.b0.c63
    have f03 := L.b0.fr 3
    have c04 := L.b0.c64
    have f04 := L.b0.fr 4
    have c05 := L.b0.c65
    have f05 := L.b0.fr 5
    have c10 := L.tl.b0.c60
    have c11 := L.tl.b0.c61
    have c12 := L.tl.b0.c62
    have c13 := L.tl.b0.c63
    have c14 := L.tl.b0.c64
    have c15 := L.tl.b0.c65
    (try go_wp2_with fail)
    refine (HS.out _ _ (isI_n (m := m) (e := e) (n := n) (f := f) (L.getN (v := .slice A (zl m) c) (x := (m).natAbs) (by simp)) (L.getN (v := .slice B (zl n) d) (x := (n).natAbs) (by simp)))).mono ?_
    rintro e w1 ⟨rfl, be⟩
    clear c00 f00 c01 f01 c02 f02 c03 f03 c04 f04 c05 f05 c10 c11 c12 c13 c14 c15
    replace L := L.step be
    clear be
    have c00 := L.b0.c60
    have f00 := L.b0.fr 0
    have c01 := L.b0.c61
    have f01 := L.b0.fr 1
    have c02 := L.b0.c62
    have f02 := L.b0.fr 2
    have c03 := L.b0.c63
    have f03 := L.b0.fr 3
    have c04 := L.b0.c64
    have f04 := L.b0.fr 4
    have c05 := L.b0.c65
    have f05 := L.b0.fr 5
    have c10 := L.tl.b0.c60
    have c11 := L.tl.b0.c61
    have c12 := L.tl.b0.c62
    have c13 := L.tl.b0.c63
    have c14 := L.tl.b0.c64
    have c15 := L.tl.b0.c65
    (try go_wp2_with fail)
    refine (HW.out _).mono ?_
    rintro e9 w' ⟨rfl, rfl⟩
    (try go_wp2_with fail)
    have LP := L.putI (by omega) (by first | (simp; done) | (simp; omega)) false none 0 0 0 false none 0 0 0
    have k0 := LP.b0.c60
    have k1 := LP.b0.c61
    have k2 := LP.b0.c62
    have k3 := LP.b0.c63
    have k4 := LP.b0.c64
    have k5 := LP.b0.c65
    unfold put6 at k0 k1 k2 k3 k4 k5
    exact bodyPost_ret (v := .tuple #[.agg #[.bool false, .slice none 0 0, .int .i64 0, .bool false, .slice none 0 0, .int .i64 0], .int .i64 1]) (by simp [results, Tryz.results23, go_sem, k0, k1, k2, k3, k4, k5]) rfl (RetIE.z LP.below _)
  · rw [hw] at HW0
    have HW := Lib.hid HW0
    clear HW0
    cases hp : powB j
    · rw [Bool.and_false, if_neg (by decide)]
      rw [hp] at HP0
      have HP := Lib.hid HP0
      clear HP0 hw hp hsv hsb hne
      go_enter Tryz.func23, Tryz.ntmps23
      go_wp2_with fail
      have L := ((L0.varI (w.heap.size) (by simp) (ng m) A (zl m) c e (ng n) B (zl n) d f).varI (w.heap.size + 1) (by simp) false none 0 0 0 false none 0 0 0)
      have c00 := L.b0.c60
      have f00 := L.b0.fr 0
      have c01 := L.b0.c61
      have f01 := L.b0.fr 1
      have c02 := L.b0.c62
      have f02 := L.b0.fr 2
      have c03 := L.b0.c63
      have f03 := L.b0.fr 3
      have c04 := L.b0.c64
      have f04 := L.b0.fr 4
      have c05 := L.b0.c65
      have f05 := L.b0.fr 5
      have c10 := L.tl.b0.c60
      have c11 := L.tl.b0.c61
      have c12 := L.tl.b0.c62
      have c13 := L.tl.b0.c63
      have c14 := L.tl.b0.c64
      have c15 := L.tl.b0.c65
      (try go_wp2_with fail)
      refine (HS.out _ _ (isI_n (m := m) (e := e) (n := n) (f := f) (L.getN (v := .slice A (zl m) c) (x := (m).natAbs) (by simp)) (L.getN (v := .slice B (zl n) d) (x := (n).natAbs) (by simp)))).mono ?_
      rintro e w1 ⟨rfl, be⟩
      clear c00 f00 c01 f01 c02 f02 c03 f03 c04 f04 c05 f05 c10 c11 c12 c13 c14 c15
      replace L := L.step be
      clear be
      have c00 := L.b0.c60
      have f00 := L.b0.fr 0
      have c01 := L.b0.c61
      have f01 := L.b0.fr 1
      have c02 := L.b0.c62
      have f02 := L.b0.fr 2
      have c03 := L.b0.c63
      have f03 := L.b0.fr 3
      have c04 := L.b0.c64
      have f04 := L.b0.fr 4
      have c05 := L.b0.c65
      have f05 := L.b0.fr 5
      have c10 := L.tl.b0.c60
      have c11 := L.tl.b0.c61
      have c12 := L.tl.b0.c62
      have c13 := L.tl.b0.c63
      have c14 := L.tl.b0.c64
      have c15 := L.tl.b0.c65
      (try go_wp2_with fail)
      refine (HW.out _).mono ?_
      rintro e9 w' ⟨rfl, rfl⟩
      (try go_wp2_with fail)
      refine (HP.out _).mono ?_
      rintro e9 w' ⟨rfl, rfl⟩
      (try go_wp2_with fail)
      have LP := L.putI (by omega) (by first | (simp; done) | (simp; omega)) false none 0 0 0 false none 0 0 0
      have k0 := LP.b0.c60
      have k1 := LP.b0.c61
      have k2 := LP.b0.c62
      have k3 := LP.b0.c63
      have k4 := LP.b0.c64
      have k5 := LP.b0.c65
      unfold put6 at k0 k1 k2 k3 k4 k5
      exact bodyPost_ret (v := .tuple #[.agg #[.bool false, .slice none 0 0, .int .i64 0, .bool false, .slice none 0 0, .int .i64 0], .int .i64 1]) (by simp [results, Tryz.results23, go_sem, k0, k1, k2, k3, k4, k5]) rfl (RetIE.z LP.below _)
    · rw [Bool.and_true, if_pos rfl]
      rw [hp] at HP0
      have HP := Lib.hid HP0
      obtain ⟨pb1, pb2⟩ := HPB.out hp
      clear HP0 hp HPB
      cases sb
      · rw [if_neg (by rintro ⟨_, h, _⟩; cases h)]
        by_cases hj : j < 0
        · rw [if_pos ⟨hj, rfl⟩]
          have b1 : decide (j < 0) = true := decide_eq_true hj
          clear hw hsv hsb hne hj pb1 pb2
          go_enter Tryz.func23, Tryz.ntmps23
          go_wp2_with fail
          have L := ((L0.varI (w.heap.size) (by simp) (ng m) A (zl m) c e (ng n) B (zl n) d f).varI (w.heap.size + 1) (by simp) false none 0 0 0 false none 0 0 0)
          have c00 := L.b0.c60
          have f00 := L.b0.fr 0
          have c01 := L.b0.c61
          have f01 := L.b0.fr 1
          have c02 := L.b0.c62
          have f02 := L.b0.fr 2
          have c03 := L.b0.c63
          have f03 := L.b0.fr 3
          have c04 := L.b0.c64
          have f04 := L.b0.fr 4
          have c05 := L.b0.c65
          have f05 := L.b0.fr 5
          have c10 := L.tl.b0.c60
          have c11 := L.tl.b0.c61
          have c12 := L.tl.b0.c62
          have c13 := L.tl.b0.c63
          have c14 := L.tl.b0.c64
          have c15 := L.tl.b0.c65
          (try go_wp2_with fail)
          refine (HS.out _ _ (isI_n (m := m) (e := e) (n := n) (f := f) (L.getN (v := .slice A (zl m) c) (x := (m).natAbs) (by simp)) (L.getN (v := .slice B (zl n) d) (x := (n).natAbs) (by simp)))).mono ?_
          rintro e w1 ⟨rfl, be⟩
          clear c00 f00 c01 f01 c02 f02 c03 f03 c04 f04 c05 f05 c10 c11 c12 c13 c14 c15
          replace L := L.step be
          clear be
          have c00 := L.b0.c60
          have f00 := L.b0.fr 0
          have c01 := L.b0.c61
          have f01 := L.b0.fr 1
          have c02 := L.b0.c62
          have f02 := L.b0.fr 2
          have c03 := L.b0.c63
          have f03 := L.b0.fr 3
          have c04 := L.b0.c64
          have f04 := L.b0.fr 4
          have c05 := L.b0.c65
          have f05 := L.b0.fr 5
          have c10 := L.tl.b0.c60
          have c11 := L.tl.b0.c61
          have c12 := L.tl.b0.c62
          have c13 := L.tl.b0.c63
          have c14 := L.tl.b0.c64
          have c15 := L.tl.b0.c65
          (try go_wp2_with fail)
          refine (HW.out _).mono ?_
          rintro e9 w' ⟨rfl, rfl⟩
          (try go_wp2_with fail)
          refine (HP.out _).mono ?_
          rintro e9 w' ⟨rfl, rfl⟩
          (try go_wp2_with fail)
          have LP := L.putI (by omega) (by first | (simp; done) | (simp; omega)) false none 0 0 0 false none 0 0 0
          have k0 := LP.b0.c60
          have k1 := LP.b0.c61
          have k2 := LP.b0.c62
          have k3 := LP.b0.c63
          have k4 := LP.b0.c64
          have k5 := LP.b0.c65
          unfold put6 at k0 k1 k2 k3 k4 k5
          exact bodyPost_ret (v := .tuple #[.agg #[.bool false, .slice none 0 0, .int .i64 0, .bool false, .slice none 0 0, .int .i64 0], .int .i64 5]) (by simp [results, Tryz.results23, go_sem, k0, k1, k2, k3, k4, k5]) rfl (RetIE.z LP.below _)
        · rw [if_neg (fun h => hj h.1)]
          have b1 : decide (j < 0) = false := decide_eq_false hj
          clear hsv hsb hne
          have hop : ∀ p ∈ [(m, e), (0, 0), (n, f)], ∃ (a : Int) (d : Nat), 0 < d ∧ zl a ≤ 800 ∧ len d ≤ 800 ∧ Rat.divInt a (d : Int) = (fun p => pw (dOf p) j) p ∧ ∀ v W, IsD W v p.1 p.2 → Calls Tryz.prog 112 #[v, .int .i64 j] W (RetP W a d) := fun p hp => by
            simp only [List.mem_cons, List.not_mem_nil, or_false] at hp
            rcases hp with rfl | rfl | rfl
            · exact dpow_pair pb1 (fun h => absurd h hj)
            · exact dpow_pair ⟨by rw [zl_zero]; omega, by omega, pb1.2.2.1, by rw [zl_zero]; have := pb1.2.2.1; show (0 + (0 / 32 + 1)) * j.natAbs ≤ 780; omega⟩ (fun h => absurd h hj)
            · exact dpow_pair pb2 (fun h => absurd h hj)
          have HEN := Lib.hid (fun v W (h : RowD W v [(m, e), (0, 0), (n, f)]) (hW : Below w.heap.size w W) => dbetween_any _ _ _ _ j k v W h (by simp) (by simp) hop (pw_least3 m e n f j) (pw_most3 m e n f j) hw (HT.out W hW))
          obtain ⟨lo, hlo⟩ : ∃ z, plo false (dq m e) (dq n f) j = z := ⟨_, rfl⟩
          obtain ⟨hi, hhi⟩ : ∃ z, phi false (dq m e) (dq n f) j = z := ⟨_, rfl⟩
          rw [hlo, hhi] at HEN ⊢
          clear hop hlo hhi hw pb1 pb2 HT
          clear hj
          go_enter Tryz.func23, Tryz.ntmps23
          go_wp2_with fail
          have L := ((L0.varI (w.heap.size) (by simp) (ng m) A (zl m) c e (ng n) B (zl n) d f).varI (w.heap.size + 1) (by simp) false none 0 0 0 false none 0 0 0)
          have c00 := L.b0.c60
          have f00 := L.b0.fr 0
          have c01 := L.b0.c61
          have f01 := L.b0.fr 1
          have c02 := L.b0.c62
          have f02 := L.b0.fr 2
          have c03 := L.b0.c63
          have f03 := L.b0.fr 3
          have c04 := L.b0.c64
          have f04 := L.b0.fr 4
          have c05 := L.b0.c65
          have f05 := L.b0.fr 5
          have c10 := L.tl.b0.c60
          have c11 := L.tl.b0.c61
          have c12 := L.tl.b0.c62
          have c13 := L.tl.b0.c63
          have c14 := L.tl.b0.c64
          have c15 := L.tl.b0.c65
          (try go_wp2_with fail)
          refine (HS.out _ _ (isI_n (m := m) (e := e) (n := n) (f := f) (L.getN (v := .slice A (zl m) c) (x := (m).natAbs) (by simp)) (L.getN (v := .slice B (zl n) d) (x := (n).natAbs) (by simp)))).mono ?_
          rintro e w1 ⟨rfl, be⟩
          clear c00 f00 c01 f01 c02 f02 c03 f03 c04 f04 c05 f05 c10 c11 c12 c13 c14 c15
          replace L := L.step be
          clear be
          have c00 := L.b0.c60
          have f00 := L.b0.fr 0
          have c01 := L.b0.c61
          have f01 := L.b0.fr 1
          have c02 := L.b0.c62
          have f02 := L.b0.fr 2
          have c03 := L.b0.c63
          have f03 := L.b0.fr 3
          have c04 := L.b0.c64
          have f04 := L.b0.fr 4
          have c05 := L.b0.c65
          have f05 := L.b0.fr 5
          have c10 := L.tl.b0.c60
          have c11 := L.tl.b0.c61
          have c12 := L.tl.b0.c62
          have c13 := L.tl.b0.c63
          have c14 := L.tl.b0.c64
          have c15 := L.tl.b0.c65
          (try go_wp2_with fail)
          refine (HW.out _).mono ?_
          rintro e9 w' ⟨rfl, rfl⟩
          (try go_wp2_with fail)
          refine (HP.out _).mono ?_
          rintro e9 w' ⟨rfl, rfl⟩
          (try go_wp2_with fail)
          refine (H2.out _ _ (isI_n (m := m) (e := e) (n := n) (f := f) (L.getN (v := .slice A (zl m) c) (x := (m).natAbs) (by simp)) (L.getN (v := .slice B (zl n) d) (x := (n).natAbs) (by simp)))).mono ?_
          rintro e w2 ⟨rfl, be⟩
          clear c00 f00 c01 f01 c02 f02 c03 f03 c04 f04 c05 f05 c10 c11 c12 c13 c14 c15
          replace L := L.step be
          clear be
          have c00 := L.b0.c60
          have f00 := L.b0.fr 0
          have c01 := L.b0.c61
          have f01 := L.b0.fr 1
          have c02 := L.b0.c62
          have f02 := L.b0.fr 2
          have c03 := L.b0.c63
          have f03 := L.b0.fr 3
          have c04 := L.b0.c64
          have f04 := L.b0.fr 4
          have c05 := L.b0.c65
          have f05 := L.b0.fr 5
          have c10 := L.tl.b0.c60
          have c11 := L.tl.b0.c61
          have c12 := L.tl.b0.c62
          have c13 := L.tl.b0.c63
          have c14 := L.tl.b0.c64
          have c15 := L.tl.b0.c65
          go_wp2_with fail
          clear c00 f00 c01 f01 c02 f02 c03 f03 c04 f04 c05 f05 c10 c11 c12 c13 c14 c15
          replace L := L.var w2.heap.size rfl 29 #[.bool (ng m), .slice A (zl m) c, .int .i64 e, .bool false, .slice none 0 0, .int .i64 0, .bool (ng n), .slice B (zl n) d, .int .i64 f] (plainD_z _ _ _ _ _ _ _ _)
          refine (HEN.out _ _ (rowD_z L.b0 (L.getN (by simp)) (L.getN (by simp))) L.below).mono ?_
          intro e9 w19 hen
          obtain ⟨v19, er, m9, e9', n9, f9, rfl, ii, be, hback⟩ := hen.form
          obtain ⟨A5, c5, B5, d5, rfl, ia, ib⟩ := ii.form
          replace L := (((L.step be).n ib).n ia).pick [(w.heap.size + 1, 31, #[.bool false, .slice none 0 0, .int .i64 0, .bool false, .slice none 0 0, .int .i64 0])] (by simp)
          clear be ii ia ib hen
          have HBK := Lib.hid hback
          clear hback
          have c00 := L.b0.c60
          have f00 := L.b0.fr 0
          have c01 := L.b0.c61
          have f01 := L.b0.fr 1
          have c02 := L.b0.c62
          have f02 := L.b0.fr 2
          have c03 := L.b0.c63
          have f03 := L.b0.fr 3
          have c04 := L.b0.c64
          have f04 := L.b0.fr 4
          have c05 := L.b0.c65
          have f05 := L.b0.fr 5
          go_wp2_with fail
          have LP := L.putI (by omega) (by first | (simp; done) | (simp; omega)) (ng m9) A5 (zl m9) c5 e9' (ng n9) B5 (zl n9) d5 f9
          have k0' := LP.b0.c60
          have k1' := LP.b0.c61
          have k2' := LP.b0.c62
          have k3' := LP.b0.c63
          have k4' := LP.b0.c64
          have k5' := LP.b0.c65
          unfold put6 at k0' k1' k2' k3' k4' k5'
          exact bodyPost_ret (v := .tuple #[.agg #[.bool (ng m9), .slice A5 (zl m9) c5, .int .i64 e9', .bool (ng n9), .slice B5 (zl n9) d5, .int .i64 f9], .int .i64 er]) (by simp [results, Tryz.results23, go_sem, k0', k1', k2', k3', k4', k5']) rfl (HBK.out _ _ _ (isI_n (LP.getN (by simp)) (LP.getN (by simp))) LP.below)
      · have hs := of_decide_eq_true hsb
        rw [if_pos hs] at hsv
        by_cases hj : j < 0
        · have b1 : decide (j < 0) = true := decide_eq_true hj
          by_cases hv0 : sv = 0
          · rw [if_pos ⟨hj, rfl, hv0⟩]
            have b2 : (sv == 0) = true := by simpa using hv0
            clear hw hsv hsb hne hj hs hv0 pb1 pb2
            go_enter Tryz.func23, Tryz.ntmps23
            go_wp2_with fail
            have L := ((L0.varI (w.heap.size) (by simp) (ng m) A (zl m) c e (ng n) B (zl n) d f).varI (w.heap.size + 1) (by simp) false none 0 0 0 false none 0 0 0)
            have c00 := L.b0.c60
            have f00 := L.b0.fr 0
            have c01 := L.b0.c61
            have f01 := L.b0.fr 1
            have c02 := L.b0.c62
            have f02 := L.b0.fr 2
            have c03 := L.b0.c63
            have f03 := L.b0.fr 3
            have c04 := L.b0.c64
            have f04 := L.b0.fr 4
            have c05 := L.b0.c65
            have f05 := L.b0.fr 5
            have c10 := L.tl.b0.c60
            have c11 := L.tl.b0.c61
            have c12 := L.tl.b0.c62
            have c13 := L.tl.b0.c63
            have c14 := L.tl.b0.c64
            have c15 := L.tl.b0.c65
            (try go_wp2_with fail)
            refine (HS.out _ _ (isI_n (m := m) (e := e) (n := n) (f := f) (L.getN (v := .slice A (zl m) c) (x := (m).natAbs) (by simp)) (L.getN (v := .slice B (zl n) d) (x := (n).natAbs) (by simp)))).mono ?_
            rintro e w1 ⟨rfl, be⟩
            clear c00 f00 c01 f01 c02 f02 c03 f03 c04 f04 c05 f05 c10 c11 c12 c13 c14 c15
            replace L := L.step be
            clear be
            have c00 := L.b0.c60
            have f00 := L.b0.fr 0
            have c01 := L.b0.c61
            have f01 := L.b0.fr 1
            have c02 := L.b0.c62
            have f02 := L.b0.fr 2
            have c03 := L.b0.c63
            have f03 := L.b0.fr 3
            have c04 := L.b0.c64
            have f04 := L.b0.fr 4
            have c05 := L.b0.c65
            have f05 := L.b0.fr 5
            have c10 := L.tl.b0.c60
            have c11 := L.tl.b0.c61
            have c12 := L.tl.b0.c62
            have c13 := L.tl.b0.c63
            have c14 := L.tl.b0.c64
            have c15 := L.tl.b0.c65
            (try go_wp2_with fail)
            refine (HW.out _).mono ?_
            rintro e9 w' ⟨rfl, rfl⟩
            (try go_wp2_with fail)
            refine (HP.out _).mono ?_
            rintro e9 w' ⟨rfl, rfl⟩
            (try go_wp2_with fail)
            have LP := L.putI (by omega) (by first | (simp; done) | (simp; omega)) false none 0 0 0 false none 0 0 0
            have k0 := LP.b0.c60
            have k1 := LP.b0.c61
            have k2 := LP.b0.c62
            have k3 := LP.b0.c63
            have k4 := LP.b0.c64
            have k5 := LP.b0.c65
            unfold put6 at k0 k1 k2 k3 k4 k5
            exact bodyPost_ret (v := .tuple #[.agg #[.bool false, .slice none 0 0, .int .i64 0, .bool false, .slice none 0 0, .int .i64 0], .int .i64 2]) (by simp [results, Tryz.results23, go_sem, k0, k1, k2, k3, k4, k5]) rfl (RetIE.z LP.below _)
          · rw [if_neg (fun h => hv0 h.2.2), if_neg (by rintro ⟨_, h⟩; cases h)]
            have b2 : (sv == 0) = false := by simpa using hv0
            have hnz : j < 0 → m ≠ 0 ∧ n ≠ 0 := fun _ => hne hs (by rw [hsv]; exact hv0)
            clear hsv hsb hne hs hv0 hj
            have hop : ∀ p ∈ [(m, e), (n, f)], ∃ (a : Int) (d : Nat), 0 < d ∧ zl a ≤ 800 ∧ len d ≤ 800 ∧ Rat.divInt a (d : Int) = (fun p => pw (dOf p) j) p ∧ ∀ v W, IsD W v p.1 p.2 → Calls Tryz.prog 112 #[v, .int .i64 j] W (RetP W a d) := fun p hp => by
              simp only [List.mem_cons, List.not_mem_nil, or_false] at hp
              rcases hp with rfl | rfl
              · exact dpow_pair pb1 (fun h => (hnz h).1)
              · exact dpow_pair pb2 (fun h => (hnz h).2)
            have HEN := Lib.hid (fun v W (h : RowD W v [(m, e), (n, f)]) (hW : Below w.heap.size w W) => dbetween_any _ _ _ _ j k v W h (by simp) (by simp) hop (pw_least2 m e n f j) (pw_most2 m e n f j) hw (HT.out W hW))
            obtain ⟨lo, hlo⟩ : ∃ z, plo true (dq m e) (dq n f) j = z := ⟨_, rfl⟩
            obtain ⟨hi, hhi⟩ : ∃ z, phi true (dq m e) (dq n f) j = z := ⟨_, rfl⟩
            rw [hlo, hhi] at HEN ⊢
            clear hop hlo hhi hw pb1 pb2 HT
            clear hnz
            go_enter Tryz.func23, Tryz.ntmps23
            go_wp2_with fail
            have L := ((L0.varI (w.heap.size) (by simp) (ng m) A (zl m) c e (ng n) B (zl n) d f).varI (w.heap.size + 1) (by simp) false none 0 0 0 false none 0 0 0)
            have c00 := L.b0.c60
            have f00 := L.b0.fr 0
            have c01 := L.b0.c61
            have f01 := L.b0.fr 1
            have c02 := L.b0.c62
            have f02 := L.b0.fr 2
            have c03 := L.b0.c63
            have f03 := L.b0.fr 3
            have c04 := L.b0.c64
            have f04 := L.b0.fr 4
            have c05 := L.b0.c65
            have f05 := L.b0.fr 5
            have c10 := L.tl.b0.c60
            have c11 := L.tl.b0.c61
            have c12 := L.tl.b0.c62
            have c13 := L.tl.b0.c63
            have c14 := L.tl.b0.c64
            have c15 := L.tl.b0.c65
            (try go_wp2_with fail)
            refine (HS.out _ _ (isI_n (m := m) (e := e) (n := n) (f := f) (L.getN (v := .slice A (zl m) c) (x := (m).natAbs) (by simp)) (L.getN (v := .slice B (zl n) d) (x := (n).natAbs) (by simp)))).mono ?_
            rintro e w1 ⟨rfl, be⟩
            clear c00 f00 c01 f01 c02 f02 c03 f03 c04 f04 c05 f05 c10 c11 c12 c13 c14 c15
            replace L := L.step be
            clear be
            have c00 := L.b0.c60
            have f00 := L.b0.fr 0
            have c01 := L.b0.c61
            have f01 := L.b0.fr 1
            have c02 := L.b0.c62
            have f02 := L.b0.fr 2
            have c03 := L.b0.c63
            have f03 := L.b0.fr 3
            have c04 := L.b0.c64
            have f04 := L.b0.fr 4
            have c05 := L.b0.c65
            have f05 := L.b0.fr 5
            have c10 := L.tl.b0.c60
            have c11 := L.tl.b0.c61
            have c12 := L.tl.b0.c62
            have c13 := L.tl.b0.c63
            have c14 := L.tl.b0.c64
            have c15 := L.tl.b0.c65
            (try go_wp2_with fail)
            refine (HW.out _).mono ?_
            rintro e9 w' ⟨rfl, rfl⟩
            (try go_wp2_with fail)
            refine (HP.out _).mono ?_
            rintro e9 w' ⟨rfl, rfl⟩
            (try go_wp2_with fail)
            refine (H2.out _ _ (isI_n (m := m) (e := e) (n := n) (f := f) (L.getN (v := .slice A (zl m) c) (x := (m).natAbs) (by simp)) (L.getN (v := .slice B (zl n) d) (x := (n).natAbs) (by simp)))).mono ?_
            rintro e w2 ⟨rfl, be⟩
            clear c00 f00 c01 f01 c02 f02 c03 f03 c04 f04 c05 f05 c10 c11 c12 c13 c14 c15
            replace L := L.step be
            clear be
            have c00 := L.b0.c60
            have f00 := L.b0.fr 0
            have c01 := L.b0.c61
            have f01 := L.b0.fr 1
            have c02 := L.b0.c62
            have f02 := L.b0.fr 2
            have c03 := L.b0.c63
            have f03 := L.b0.fr 3
            have c04 := L.b0.c64
            have f04 := L.b0.fr 4
            have c05 := L.b0.c65
            have f05 := L.b0.fr 5
            have c10 := L.tl.b0.c60
            have c11 := L.tl.b0.c61
            have c12 := L.tl.b0.c62
            have c13 := L.tl.b0.c63
            have c14 := L.tl.b0.c64
            have c15 := L.tl.b0.c65
            go_wp2_with fail
            clear c00 f00 c01 f01 c02 f02 c03 f03 c04 f04 c05 f05 c10 c11 c12 c13 c14 c15
            replace L := L.var w2.heap.size rfl 29 #[.bool (ng m), .slice A (zl m) c, .int .i64 e, .bool (ng n), .slice B (zl n) d, .int .i64 f] (plainD_2 _ _ _ _ _ _ _ _)
            refine (HEN.out _ _ (rowD_2 L.b0 (L.getN (by simp)) (L.getN (by simp))) L.below).mono ?_
            intro e9 w19 hen
            obtain ⟨v19, er, m9, e9', n9, f9, rfl, ii, be, hback⟩ := hen.form
            obtain ⟨A5, c5, B5, d5, rfl, ia, ib⟩ := ii.form
            replace L := (((L.step be).n ib).n ia).pick [(w.heap.size + 1, 31, #[.bool false, .slice none 0 0, .int .i64 0, .bool false, .slice none 0 0, .int .i64 0])] (by simp)
            clear be ii ia ib hen
            have HBK := Lib.hid hback
            clear hback
            have c00 := L.b0.c60
            have f00 := L.b0.fr 0
            have c01 := L.b0.c61
            have f01 := L.b0.fr 1
            have c02 := L.b0.c62
            have f02 := L.b0.fr 2
            have c03 := L.b0.c63
            have f03 := L.b0.fr 3
            have c04 := L.b0.c64
            have f04 := L.b0.fr 4
            have c05 := L.b0.c65
            have f05 := L.b0.fr 5
            go_wp2_with fail
            have LP := L.putI (by omega) (by first | (simp; done) | (simp; omega)) (ng m9) A5 (zl m9) c5 e9' (ng n9) B5 (zl n9) d5 f9
            have k0' := LP.b0.c60
            have k1' := LP.b0.c61
            have k2' := LP.b0.c62
            have k3' := LP.b0.c63
            have k4' := LP.b0.c64
            have k5' := LP.b0.c65
            unfold put6 at k0' k1' k2' k3' k4' k5'
            exact bodyPost_ret (v := .tuple #[.agg #[.bool (ng m9), .slice A5 (zl m9) c5, .int .i64 e9', .bool (ng n9), .slice B5 (zl n9) d5, .int .i64 f9], .int .i64 er]) (by simp [results, Tryz.results23, go_sem, k0', k1', k2', k3', k4', k5']) rfl (HBK.out _ _ _ (isI_n (LP.getN (by simp)) (LP.getN (by simp))) LP.below)
        · rw [if_neg (fun h => hj h.1), if_neg (fun h => hj h.1)]
          have b1 : decide (j < 0) = false := decide_eq_false hj
          have hnz : j < 0 → m ≠ 0 ∧ n ≠ 0 := fun h => absurd h hj
          clear hsv hsb hne hs hj
          have hop : ∀ p ∈ [(m, e), (n, f)], ∃ (a : Int) (d : Nat), 0 < d ∧ zl a ≤ 800 ∧ len d ≤ 800 ∧ Rat.divInt a (d : Int) = (fun p => pw (dOf p) j) p ∧ ∀ v W, IsD W v p.1 p.2 → Calls Tryz.prog 112 #[v, .int .i64 j] W (RetP W a d) := fun p hp => by
            simp only [List.mem_cons, List.not_mem_nil, or_false] at hp
            rcases hp with rfl | rfl
            · exact dpow_pair pb1 (fun h => (hnz h).1)
            · exact dpow_pair pb2 (fun h => (hnz h).2)
          have HEN := Lib.hid (fun v W (h : RowD W v [(m, e), (n, f)]) (hW : Below w.heap.size w W) => dbetween_any _ _ _ _ j k v W h (by simp) (by simp) hop (pw_least2 m e n f j) (pw_most2 m e n f j) hw (HT.out W hW))
          obtain ⟨lo, hlo⟩ : ∃ z, plo true (dq m e) (dq n f) j = z := ⟨_, rfl⟩
          obtain ⟨hi, hhi⟩ : ∃ z, phi true (dq m e) (dq n f) j = z := ⟨_, rfl⟩
          rw [hlo, hhi] at HEN ⊢
          clear hop hlo hhi hw pb1 pb2 HT
          clear hnz
          go_enter Tryz.func23, Tryz.ntmps23
          go_wp2_with fail
          have L := ((L0.varI (w.heap.size) (by simp) (ng m) A (zl m) c e (ng n) B (zl n) d f).varI (w.heap.size + 1) (by simp) false none 0 0 0 false none 0 0 0)
          have c00 := L.b0.c60
          have f00 := L.b0.fr 0
          have c01 := L.b0.c61
          have f01 := L.b0.fr 1
          have c02 := L.b0.c62
          have f02 := L.b0.fr 2
          have c03 := L.b0.c63
          have f03 := L.b0.fr 3
          have c04 := L.b0.c64
          have f04 := L.b0.fr 4
          have c05 := L.b0.c65
          have f05 := L.b0.fr 5
          have c10 := L.tl.b0.c60
          have c11 := L.tl.b0.c61
          have c12 := L.tl.b0.c62
          have c13 := L.tl.b0.c63
          have c14 := L.tl.b0.c64
          have c15 := L.tl.b0.c65
          (try go_wp2_with fail)
          refine (HS.out _ _ (isI_n (m := m) (e := e) (n := n) (f := f) (L.getN (v := .slice A (zl m) c) (x := (m).natAbs) (by simp)) (L.getN (v := .slice B (zl n) d) (x := (n).natAbs) (by simp)))).mono ?_
          rintro e w1 ⟨rfl, be⟩
          clear c00 f00 c01 f01 c02 f02 c03 f03 c04 f04 c05 f05 c10 c11 c12 c13 c14 c15
          replace L := L.step be
          clear be
          have c00 := L.b0.c60
          have f00 := L.b0.fr 0
          have c01 := L.b0.c61
          have f01 := L.b0.fr 1
          have c02 := L.b0.c62
          have f02 := L.b0.fr 2
          have c03 := L.b0.c63
          have f03 := L.b0.fr 3
          have c04 := L.b0.c64
          have f04 := L.b0.fr 4
          have c05 := L.b0.c65
          have f05 := L.b0.fr 5
          have c10 := L.tl.b0.c60
          have c11 := L.tl.b0.c61
          have c12 := L.tl.b0.c62
          have c13 := L.tl.b0.c63
          have c14 := L.tl.b0.c64
          have c15 := L.tl.b0.c65
          (try go_wp2_with fail)
          refine (HW.out _).mono ?_
          rintro e9 w' ⟨rfl, rfl⟩
          (try go_wp2_with fail)
          refine (HP.out _).mono ?_
          rintro e9 w' ⟨rfl, rfl⟩
          (try go_wp2_with fail)
          refine (H2.out _ _ (isI_n (m := m) (e := e) (n := n) (f := f) (L.getN (v := .slice A (zl m) c) (x := (m).natAbs) (by simp)) (L.getN (v := .slice B (zl n) d) (x := (n).natAbs) (by simp)))).mono ?_
          rintro e w2 ⟨rfl, be⟩
          clear c00 f00 c01 f01 c02 f02 c03 f03 c04 f04 c05 f05 c10 c11 c12 c13 c14 c15
          replace L := L.step be
          clear be
          have c00 := L.b0.c60
          have f00 := L.b0.fr 0
          have c01 := L.b0.c61
          have f01 := L.b0.fr 1
          have c02 := L.b0.c62
          have f02 := L.b0.fr 2
          have c03 := L.b0.c63
          have f03 := L.b0.fr 3
          have c04 := L.b0.c64
          have f04 := L.b0.fr 4
          have c05 := L.b0.c65
          have f05 := L.b0.fr 5
          have c10 := L.tl.b0.c60
          have c11 := L.tl.b0.c61
          have c12 := L.tl.b0.c62
          have c13 := L.tl.b0.c63
          have c14 := L.tl.b0.c64
          have c15 := L.tl.b0.c65
          go_wp2_with fail
          clear c00 f00 c01 f01 c02 f02 c03 f03 c04 f04 c05 f05 c10 c11 c12 c13 c14 c15
          replace L := L.var w2.heap.size rfl 29 #[.bool (ng m), .slice A (zl m) c, .int .i64 e, .bool (ng n), .slice B (zl n) d, .int .i64 f] (plainD_2 _ _ _ _ _ _ _ _)
          refine (HEN.out _ _ (rowD_2 L.b0 (L.getN (by simp)) (L.getN (by simp))) L.below).mono ?_
          intro e9 w19 hen
          obtain ⟨v19, er, m9, e9', n9, f9, rfl, ii, be, hback⟩ := hen.form
          obtain ⟨A5, c5, B5, d5, rfl, ia, ib⟩ := ii.form
          replace L := (((L.step be).n ib).n ia).pick [(w.heap.size + 1, 31, #[.bool false, .slice none 0 0, .int .i64 0, .bool false, .slice none 0 0, .int .i64 0])] (by simp)
          clear be ii ia ib hen
          have HBK := Lib.hid hback
          clear hback
          have c00 := L.b0.c60
          have f00 := L.b0.fr 0
          have c01 := L.b0.c61
          have f01 := L.b0.fr 1
          have c02 := L.b0.c62
          have f02 := L.b0.fr 2
          have c03 := L.b0.c63
          have f03 := L.b0.fr 3
          have c04 := L.b0.c64
          have f04 := L.b0.fr 4
          have c05 := L.b0.c65
          have f05 := L.b0.fr 5
          go_wp2_with fail
          have LP := L.putI (by omega) (by first | (simp; done) | (simp; omega)) (ng m9) A5 (zl m9) c5 e9' (ng n9) B5 (zl n9) d5 f9
          have k0' := LP.b0.c60
          have k1' := LP.b0.c61
          have k2' := LP.b0.c62
          have k3' := LP.b0.c63
          have k4' := LP.b0.c64
          have k5' := LP.b0.c65
          unfold put6 at k0' k1' k2' k3' k4' k5'
          exact bodyPost_ret (v := .tuple #[.agg #[.bool (ng m9), .slice A5 (zl m9) c5, .int .i64 e9', .bool (ng n9), .slice B5 (zl n9) d5, .int .i64 f9], .int .i64 er]) (by simp [results, Tryz.results23, go_sem, k0', k1', k2', k3', k4', k5']) rfl (HBK.out _ _ _ (isI_n (LP.getN (by simp)) (LP.getN (by simp))) LP.below)

/-- The root of a moderate interval from zero on is sure. -/
theorem RetSr.sure {m e n f k : Int} {i : Nat} (lm : zl m ≤ 400) (ln : zl n ≤ 400) (he : -10000 ≤ e ∧ e ≤ 10000) (hf : -10000 ≤ f ∧ f ≤ 10000) (hm : 0 ≤ m) (hn : 0 ≤ n) (hle : dq m e ≤ dq n f) (hb : dq n f ≤ dq 1 ((2 * i : Nat) : Int)) (hi : i ≤ 2000) (hk : workB k = true) : ∃ M E N G : Int, (∀ W, RetSr W m e n f k = RetIE W M E N G 0) ∧ (zl M ≤ 400 ∧ (-10000 ≤ E ∧ E ≤ 10000)) ∧ (zl N ≤ 400 ∧ (-10000 ≤ G ∧ G ≤ 10000)) ∧ Dv M E ∧ Dv N G ∧ dq M E = dq (sqR (dq m e) k) (-k) ∧ dq N G = dq (sqU (dq n f) k) (-k) ∧ M = mkM (sqR (dq m e) k) (-k) ∧ E = mkE (sqR (dq m e) k) (-k) ∧ N = mkM (sqU (dq n f) k) (-k) ∧ G = mkE (sqU (dq n f) k) (-k) := by
  obtain ⟨_, h0, h1⟩ := work_perm hk
  obtain ⟨_, _, _, _, _, s5, _⟩ := sq_size lm he hm hk
  obtain ⟨_, _, _, _, _, _, r6⟩ := sq_size ln hf hn hk
  have q0 := dq_nn e hm
  have q1 := dq_nn f hn
  have e1 := dq_mk s5
  have e2 := dq_mk r6
  have x1 := bd_sqR q0 (Rat.le_trans hle hb) k
  have x2 := bd_sqU q1 hb h0
  have sm : smS m e n f k = true := by
    unfold smS
    rw [small_iff (on_mk s5 ⟨h0, h1⟩) (on_mk r6 ⟨h0, h1⟩) (by rw [e1, e2]; exact sq_order q0 hle k)]
    exact ⟨bd_top (by rw [e1]; exact x1) (by omega), bd_top (by rw [e2]; exact x2) (by omega)⟩
  obtain ⟨b1, b2, _⟩ := small_ends sm (mk_ok s5) (mk_ok r6)
  refine ⟨_, _, _, _, fun W => ?_, b1, b2, mk_ok s5, mk_ok r6, e1, e2, rfl, rfl, rfl, rfl⟩
  unfold RetSr
  rw [if_pos hk, if_neg (by omega), if_neg (by omega), if_pos sm]
/-- No cell of a block is a digit of a natural. -/
def NoDig (w : World) (g : Nat) : Prop := ∀ (j : Nat) (x : Int), w.cell? ⟨g, j, none⟩ ≠ some (.int .u32 x)
def OwnC (w : World) (B : Nat) (e : TypeId) (v : Value) (n : Nat) (xs : List Value) : Prop := w.ownsRow B e 3 v n xs ∧ ∀ g, v.ownBlock = some g → NoDig w g
theorem IsN.kept {w w' : World} {row : Option Nat} {v : Value} {x : Nat} (h : IsN w v x) (hg : w.grownBy w' row) (hn : ∀ g, row = some g → NoDig w g) : IsN w' v x := by
  obtain ⟨A, n, c, e, hs⟩ := h
  refine ⟨A, n, c, e, hs.len, hs.cap, hs.most, hs.small, fun hp => ?_⟩
  obtain ⟨b, off, h1, h2, h3⟩ := hs.place hp
  have hne : some b ≠ row := fun he => hn b he.symm (off + 0) _ (h3 0 hp)
  exact ⟨b, off, h1, Nat.lt_of_lt_of_le h2 hg.size, fun j hj => hg.cell (a := ⟨b, off + j, none⟩) (h3 j hj) hne⟩
theorem IsP.kept {w w' : World} {row : Option Nat} {v : Value} {a : Int} {d : Nat} (h : IsP w v a d) (hg : w.grownBy w' row) (hn : ∀ g, row = some g → NoDig w g) : IsP w' v a d := by
  obtain ⟨s, t, e, h1, h2⟩ := h
  exact ⟨s, t, e, h1.kept hg hn, h2.kept hg hn⟩
theorem OwnC.nil (w : World) (B : Nat) (e : TypeId) : OwnC w B e (.slice none 0 0) 0 [] := ⟨World.ownsRow_nil w B e 3, fun g h => by cases h⟩
theorem OwnC.below {w w' : World} {B n : Nat} {e : TypeId} {v : Value} {xs : List Value} (h : OwnC w B e v n xs) (hb : Below w.heap.size w w') : OwnC w' B e v n xs := by
  obtain ⟨h0, hd⟩ := h
  have hlt := h0.lt
  obtain ⟨h1, h2⟩ := h0
  refine ⟨⟨h1, ?_⟩, fun g hg j x hc => hd g hg j x ?_⟩
  · rcases h2 with h2 | ⟨g, cap, cur, e1, e2, e3, e4⟩
    · exact .inl h2
    · refine .inr ⟨g, cap, cur, e1, e2, ?_, e4⟩
      rw [hb.block g (hlt g (by rw [e1]; rfl)).2]; exact e3
  · rw [← hb.cell (p := ⟨g, j, none⟩) (hlt g hg).2]; exact hc
theorem OwnC.blockGe {w : World} {B n : Nat} {e : TypeId} {v : Value} {xs : List Value} (h : OwnC w B e v n xs) : ∀ g, v.ownBlock = some g → B ≤ g := fun g hg => (h.1.lt g hg).1
theorem noDig_row {w : World} {g : Nat} {cs : Array Value} {t : TypeId} {fr : Nat × Nat} (hg : w.heap[g]? = some (.cells cs t fr)) (h : ∀ u ∈ cs, ∀ x : Int, u ≠ .int .u32 x) : NoDig w g := fun j x hc => by
  rw [cell_of_row w g j cs t fr hg] at hc
  exact h _ (Array.mem_of_getElem? hc) x rfl
theorem zeroCells_nd {z : Array Value} (hz : ∀ u ∈ z, ∀ x : Int, u ≠ .int .u32 x) (n : Nat) : ∀ u ∈ Builtin.zeroCells z n, ∀ x : Int, u ≠ .int .u32 x := fun u hu x => by
  unfold Builtin.zeroCells at hu
  rw [Array.mem_map] at hu
  obtain ⟨k, hk, rfl⟩ := hu
  have hk' : k < n * z.size := Array.mem_range.1 hk
  have h0 : 0 < z.size := by
    rcases Nat.eq_zero_or_pos z.size with h | h
    · rw [h] at hk'; omega
    · exact h
  have hm := Nat.mod_lt k h0
  rw [getElem!_pos z (k % z.size) hm]
  exact hz _ (Array.getElem_mem hm) x
set_option maxHeartbeats 1000000 in
theorem run_app3 (w : World) (B : Nat) (t ty e : TypeId) (i : TypeInfo) (z : Value) (bytes : Nat) (ht : Tryz.prog.underlying t = some (.slice e)) (hi : Tryz.prog.info? e = some i) (hz : i.zero = some z) (hsize : i.size = 3) (hby : i.bytes = bytes) (hzs : z.cells.size = 3) (hzd : ∀ u ∈ z.cells, ∀ x : Int, u ≠ .int .u32 x)
    (v : Value) (n : Nat) (xs : List Value) (hown : OwnC w B e v n xs) (a : Addr) (c : Nat) (news : List Value) (hl : news.length = 3) (hnews : ∀ j u, news[j]? = some u → w.cell? (a.add j) = some u) (h1 : ∀ u ∈ news, u.oneCell' = true) (hnd : ∀ u ∈ news, ∀ x : Int, u ≠ .int .u32 x) (hn : n ≤ 1000000) (hb : bytes ≤ 1000) (hbase : B ≤ w.heap.size) :
    ∃ v' w', (Builtin.append_ #[t, t] ty #[v, .slice (some a) 1 c]).run Tryz.prog w = .ok v' w' ∧ OwnC w' B e v' (n + 1) (xs ++ news) ∧ w.grownBy w' v.ownBlock := by
  have hbn : (n + 1) * bytes ≤ 1000001 * 1000 := Nat.mul_le_mul (by omega) hb
  obtain ⟨v', w', hr, h2, h3, _⟩ := run_append_own (P := Tryz.prog) w B t ty e i z 3 bytes ht hi hz hsize hby hzs (by omega) v n xs hown.1 a 1 c news (by omega) hnews h1 (by unfold maxLen; omega) (by omega) hbase
  refine ⟨v', w', hr, ⟨h2, ?_⟩, h3⟩
  have zer := zeroCells_nd hzd
  have hxs : ∀ u ∈ xs, ∀ x : Int, u ≠ .int .u32 x := fun u hu x he => by
    rcases hown.1.2 with ⟨_, rfl⟩ | ⟨g, cap, cur, rfl, hbg, hg, hnc, hcm, hcs, htake⟩
    · have := hown.1.1
      rw [List.eq_nil_of_length_eq_zero (l := xs) (by omega)] at hu
      cases hu
    · rw [← htake] at hu
      obtain ⟨j, hj, rfl⟩ := List.getElem_of_mem (List.mem_of_mem_take hu)
      refine hown.2 g rfl j x ?_
      simp only [Array.length_toList] at hj
      rw [cell_of_row w g j cur e (0, 0) hg, Array.getElem?_eq_getElem hj]
      exact congrArg some (by simpa using he)
  rcases hown.1.2 with ⟨rfl, rfl⟩ | ⟨g, cap, cur, rfl, hbg, hg, hnc, hcm, hcs, htake⟩
  · have hr2 := run_append_nil (P := Tryz.prog) w t ty e i z ht hi hz a 1 c news (by rw [hsize]; omega) hnews (by omega) (by omega) (by rw [hby]; omega)
    rw [hr2] at hr
    simp only [Result.ok.injEq] at hr
    obtain ⟨rfl, rfl⟩ := hr
    intro g hg
    obtain rfl : w.heap.size = g := by simpa [Value.ownBlock] using hg
    refine noDig_row (heap_alloc_new w.drew _) (fun u hu x => ?_)
    rw [Array.mem_append] at hu
    rcases hu with hu | hu
    · exact hnd u (by simpa using hu) x
    · exact zer _ u hu x
  · by_cases hroom : n + 1 ≤ cap
    · have hfit : n * i.size + news.length ≤ cur.size := by rw [hsize, hl, hcs]; omega
      have hr2 := run_append_room (P := Tryz.prog) w t ty e i ht hi g n cap cur hg a 1 c news (by rw [hsize]; omega) hnews h1 hroom hfit
      rw [hr2] at hr
      simp only [Result.ok.injEq] at hr
      obtain ⟨rfl, rfl⟩ := hr
      intro g' hg'
      obtain rfl : g = g' := by simpa [Value.ownBlock] using hg'
      refine noDig_row (setRow_heap w g cur _ e _ hg) (fun u hu x he => ?_)
      have hcur : ∀ u ∈ cur.toList, ∀ x : Int, u ≠ .int .u32 x := fun u hu x he => by
        obtain ⟨j, hj, rfl⟩ := List.getElem_of_mem hu
        refine hown.2 g rfl j x ?_
        simp only [Array.length_toList] at hj
        rw [cell_of_row w g j cur e (0, 0) hg, Array.getElem?_eq_getElem hj]
        exact congrArg some (by simpa using he)
      rw [List.mem_toArray, List.mem_append, List.mem_append] at hu
      rcases hu with (hu | hu) | hu
      · exact hcur u (List.mem_of_mem_take hu) x he
      · exact hnd u hu x he
      · exact hcur u (List.mem_of_mem_drop hu) x he
    · have holds : ∀ j u, xs[j]? = some u → w.cell? ((⟨g, 0, none⟩ : Addr).add j) = some u := hown.1.cells (g := g) rfl
      have hr2 := run_append_grow (P := Tryz.prog) w t ty e i z ht hi hz ⟨g, 0, none⟩ n cap xs (by rw [hsize]; exact hown.1.1) holds a 1 c news (by rw [hsize]; omega) hnews (by omega) (by omega) (growslice_fits (by omega) (by rw [hby]; omega))
      rw [hr2] at hr
      simp only [Result.ok.injEq] at hr
      obtain ⟨rfl, rfl⟩ := hr
      intro g' hg'
      obtain rfl : w.heap.size = g' := by simpa [Value.ownBlock] using hg'
      refine noDig_row (heap_alloc_new w.drew _) (fun u hu x => ?_)
      rw [Array.mem_append, Array.mem_append] at hu
      rcases hu with (hu | hu) | hu
      · exact hxs u (by simpa using hu) x
      · exact hnd u (by simpa using hu) x
      · exact zer _ u hu x
theorem wpList_app3 (w : World) {ops : Array Oper} {rest : List Oper} {o : Oper} {a : Act} {Q : Exit → Act → World → Prop} (hgd : o.guard = none) (s x : Operand) (t : TypeId)
    (ho : o.op = .call { callee := .builtin .append, args := #[s, x], argTypes := #[t, t] })
    (B : Nat) (e : TypeId) (i : TypeInfo) (z : Value) (bytes : Nat) (ht : Tryz.prog.underlying t = some (.slice e)) (hi : Tryz.prog.info? e = some i) (hz : i.zero = some z) (hsize : i.size = 3) (hby : i.bytes = bytes) (hzs : z.cells.size = 3) (hzd : ∀ u ∈ z.cells, ∀ x : Int, u ≠ .int .u32 x)
    (v : Value) (n : Nat) (xs : List Value) (hs : a.eval s = v) (hown : OwnC w B e v n xs) (ad : Addr) (c : Nat) (news : List Value) (hx : a.eval x = .slice (some ad) 1 c) (hl : news.length = 3) (hnews : ∀ j u, news[j]? = some u → w.cell? (ad.add j) = some u) (h1 : ∀ u ∈ news, u.oneCell' = true) (hnd : ∀ u ∈ news, ∀ x : Int, u ≠ .int .u32 x) (hn : n ≤ 1000000) (hb : bytes ≤ 1000) (hbase : B ≤ w.heap.size)
    (h : ∀ v' w', OwnC w' B e v' (n + 1) (xs ++ news) → w.grownBy w' v.ownBlock → wpList Tryz.prog ops Q rest (a.put o.dst v') w') : wpList Tryz.prog ops Q (o :: rest) a w :=
  wpList_plain hgd fun _ hK => by
    obtain ⟨v', w', hr, h2, h3⟩ := run_app3 w B t o.type e i z bytes ht hi hz hsize hby hzs hzd v n xs hown ad c news hl hnews h1 hnd hn hb hbase
    unfold Oper.wp execOp
    simp only [ho, resolve, invoke, builtin, Sem.run_bind, Sem.run_pure, Result.andThen_ok, List.map_toArray, List.map_cons, List.map_nil, hs, hx, hr]
    exact hK _ _ (h v' w' h2 h3)
theorem info_dy11 : (Tryz.prog.info? 29).map (fun i => (i.zero, i.size, i.bytes)) = some (some (.agg #[.bool false, .slice none 0 0, .int .i64 0]), 3, 40) := by kernel_rfl
def OwnDy (w : World) (B : Nat) (v : Value) (l : List (Int × Int)) : Prop := ∃ xs, OwnC w B 29 v l.length xs ∧ ∀ (j : Nat) (p : Int × Int), l[j]? = some p → ∃ A c, xs[3 * j]? = some (.bool (ng p.1)) ∧ xs[3 * j + 1]? = some (.slice A (zl p.1) c) ∧ xs[3 * j + 2]? = some (.int .i64 p.2) ∧ IsN w (.slice A (zl p.1) c) p.1.natAbs
theorem OwnDy.nil (w : World) (B : Nat) : OwnDy w B (.slice none 0 0) [] := ⟨[], OwnC.nil w B _, fun j p h => by simp at h⟩
theorem OwnDy.below {w w' : World} {B : Nat} {v : Value} {l : List (Int × Int)} (h : OwnDy w B v l) (hb : Below w.heap.size w w') : OwnDy w' B v l := by
  obtain ⟨xs, h1, h2⟩ := h
  refine ⟨xs, h1.below hb, fun j p hp => ?_⟩
  obtain ⟨A, c, a1, a2, a3, a4⟩ := h2 j p hp
  exact ⟨A, c, a1, a2, a3, a4.mono hb⟩
theorem OwnDy.blockGe {w : World} {B : Nat} {v : Value} {l : List (Int × Int)} (h : OwnDy w B v l) : ∀ g, v.ownBlock = some g → B ≤ g := by
  obtain ⟨xs, h1, h2⟩ := h
  exact h1.blockGe
theorem OwnDy.row {w : World} {B : Nat} {v : Value} {l : List (Int × Int)} (h : OwnDy w B v l) (h0 : 0 < l.length) : RowD w v l := by
  obtain ⟨xs, h1, h2⟩ := h
  obtain ⟨g, cap, rfl⟩ := Go.Joins.ownsRow_form h1.1 (by omega)
  refine ⟨g, cap, rfl, (h1.1.lt g rfl).2, fun j p hp => ?_⟩
  obtain ⟨A, c, a1, a2, a3, a4⟩ := h2 j p hp
  have hj : j < l.length := by
    rcases Nat.lt_or_ge j l.length with h | h
    · exact h
    · rw [List.getElem?_eq_none h] at hp; cases hp
  exact ⟨A, c, by rw [h1.1.cellAt _ (by omega)]; exact a1, by rw [h1.1.cellAt _ (by omega)]; exact a2, by rw [h1.1.cellAt _ (by omega)]; exact a3, a4⟩
set_option maxHeartbeats 1000000 in
theorem wp_appDy (w : World) {ops : Array Oper} {rest : List Oper} {o : Oper} {a : Act} {Q : Exit → Act → World → Prop} (hgd : o.guard = none) (s x : Operand)
    (ho : o.op = .call { callee := .builtin .append, args := #[s, x], argTypes := #[113, 113] })
    (B : Nat) (v : Value) (l : List (Int × Int)) (hs : a.eval s = v) (hO : OwnDy w B v l) (g : Nat) {A : Option Addr} {m : Int} {c : Nat} {e : Int} (cp : Nat) (hx : a.eval x = .slice (some ⟨g, 0, none⟩) 1 cp) (hc : ∀ j u, [.bool (ng m), .slice A (zl m) c, .int .i64 e][j]? = some u → w.cell? ⟨g, j, none⟩ = some u) (hN : IsN w (.slice A (zl m) c) m.natAbs) (hk : l.length < 1000000) (hbase : B ≤ w.heap.size)
    (h : ∀ v' w', OwnDy w' B v' (l ++ [(m, e)]) → w.grownBy w' v.ownBlock → (∀ u x, IsN w u x → IsN w' u x) → wpList Tryz.prog ops Q rest (a.put o.dst v') w') : wpList Tryz.prog ops Q (o :: rest) a w := by
  obtain ⟨i0, hi, hz0, hz1, hz2⟩ := info_parts info_dy11
  obtain ⟨xs, h1, h2⟩ := hO
  have hxl := h1.1.1
  refine wpList_app3 w hgd s x 113 ho B 29 i0 _ 40 Tryz.underlying113 hi hz0 hz1 hz2 rfl ?_ v l.length xs hs h1 ⟨g, 0, none⟩ cp [.bool (ng m), .slice A (zl m) c, .int .i64 e] hx rfl ?_ ?_ ?_ (by omega) (by omega) hbase ?_
  · intro u hu x
    simp only [Value.cells, List.mem_toArray, List.mem_cons, List.not_mem_nil, or_false] at hu
    rcases hu with rfl | rfl | rfl <;> simp
  · intro j u hj
    rw [show ((⟨g, 0, none⟩ : Addr).add j) = ⟨g, j, none⟩ from by by_cases h0 : j = 0 <;> simp [Addr.add, h0]]
    exact hc j u hj
  · intro u hu
    simp only [List.mem_cons, List.not_mem_nil, or_false] at hu
    rcases hu with rfl | rfl | rfl <;> rfl
  · intro u hu x
    simp only [List.mem_cons, List.not_mem_nil, or_false] at hu
    rcases hu with rfl | rfl | rfl <;> simp
  · intro v' w' hr hg
    refine h v' w' ⟨xs ++ [.bool (ng m), .slice A (zl m) c, .int .i64 e], by rw [List.length_append]; exact hr, fun j p hp => ?_⟩ hg (fun u x hu => hu.kept hg h1.2)
    rcases Nat.lt_or_ge j l.length with hjk | hjk
    · rw [List.getElem?_append_left hjk] at hp
      obtain ⟨A, c, a1, a2, a3, a4⟩ := h2 j p hp
      exact ⟨A, c, by rw [List.getElem?_append_left (by omega)]; exact a1, by rw [List.getElem?_append_left (by omega)]; exact a2, by rw [List.getElem?_append_left (by omega)]; exact a3, a4.kept hg h1.2⟩
    · rw [List.getElem?_append_right hjk] at hp
      obtain rfl : j = l.length := by
        rcases Nat.eq_or_lt_of_le hjk with h | h
        · exact h.symm
        · rw [List.getElem?_eq_none (by simp; omega)] at hp; cases hp
      obtain rfl : (m, e) = p := by simpa using hp
      exact ⟨A, c, by rw [List.getElem?_append_right (by omega), show 3 * l.length - xs.length = 0 from by omega]; rfl, by rw [List.getElem?_append_right (by omega), show 3 * l.length + 1 - xs.length = 1 from by omega]; rfl, by rw [List.getElem?_append_right (by omega), show 3 * l.length + 2 - xs.length = 2 from by omega]; rfl, hN.kept hg h1.2⟩

def OwnRa (w : World) (B : Nat) (v : Value) (l : List (Int × Nat)) : Prop := ∃ xs, OwnC w B 121 v l.length xs ∧ ∀ (j : Nat) (p : Int × Nat), l[j]? = some p → ∃ A c B k, xs[3 * j]? = some (.bool (ng p.1)) ∧ xs[3 * j + 1]? = some (.slice A (zl p.1) c) ∧ xs[3 * j + 2]? = some (.slice B (len p.2) k) ∧ IsP w (.agg #[.bool (ng p.1), .slice A (zl p.1) c, .slice B (len p.2) k]) p.1 p.2
theorem OwnRa.nil (w : World) (B : Nat) : OwnRa w B (.slice none 0 0) [] := ⟨[], OwnC.nil w B _, fun j p h => by simp at h⟩
theorem OwnRa.below {w w' : World} {B : Nat} {v : Value} {l : List (Int × Nat)} (h : OwnRa w B v l) (hb : Below w.heap.size w w') : OwnRa w' B v l := by
  obtain ⟨xs, h1, h2⟩ := h
  refine ⟨xs, h1.below hb, fun j p hp => ?_⟩
  obtain ⟨A, c, B, k, a1, a2, a3, a4⟩ := h2 j p hp
  exact ⟨A, c, B, k, a1, a2, a3, a4.mono hb⟩
theorem OwnRa.blockGe {w : World} {B : Nat} {v : Value} {l : List (Int × Nat)} (h : OwnRa w B v l) : ∀ g, v.ownBlock = some g → B ≤ g := by
  obtain ⟨xs, h1, h2⟩ := h
  exact h1.blockGe
theorem OwnRa.row {w : World} {B : Nat} {v : Value} {l : List (Int × Nat)} (h : OwnRa w B v l) (h0 : 0 < l.length) : RowR w v l := by
  obtain ⟨xs, h1, h2⟩ := h
  obtain ⟨g, cap, rfl⟩ := Go.Joins.ownsRow_form h1.1 (by omega)
  refine ⟨g, cap, rfl, (h1.1.lt g rfl).2, fun j p hp => ?_⟩
  obtain ⟨A, c, B, k, a1, a2, a3, a4⟩ := h2 j p hp
  have hj : j < l.length := by
    rcases Nat.lt_or_ge j l.length with h | h
    · exact h
    · rw [List.getElem?_eq_none h] at hp; cases hp
  exact ⟨A, c, B, k, by rw [h1.1.cellAt _ (by omega)]; exact a1, by rw [h1.1.cellAt _ (by omega)]; exact a2, by rw [h1.1.cellAt _ (by omega)]; exact a3, a4⟩

end Go.Proofs.YtfnklkdbieikeaaGreatDoor
