/- The walk of RationalFloors: whatever the input, the law returns true and turns nothing that was there. -/
import Derived.Test.YtbndgggjfjdfbabGreatDoorAwake7
import Derived.Test.YtbndgggjfjdfbabGreatDoorMillRat
import Derived.Test.YtbndgggjfjdfbabGreatDoorFloor
import Derived.Deep.RegionHeld3
import Derived.Deep.DrawnRows
import Derived.Deep.Cut
import Derived.Deep.CutRange
namespace Go.Proofs.YtbndgggjfjdfbabGreatDoor
open Go.RowKit
set_option linter.unusedVariables false
set_option linter.unusedSimpArgs false
set_option maxRecDepth 100000
attribute [local go_sem ↓] Go.wp_at_zero Go.wp_at_succ

set_option maxHeartbeats 8000000 in
theorem walk_RationalFloors (b0 : Bool) (a0 : Option Addr) (len0 cap0 : Nat) (z0 : List Nat) (x0 : Option Addr) (nen0 nap0 : Nat) (y0 : List Nat) (w : World) (h0 : Sl w a0 len0 cap0 z0 ∧ Sl w x0 nen0 nap0 y0) (hT : Tab w) :
    Calls Tryz.prog 3 #[.agg #[.bool b0, .slice a0 len0 cap0, .slice x0 nen0 nap0]] w (fun e w' => e = .returned (.bool true) ∧ Below w.heap.size w w') := by
  go_enter Tryz.func3, Tryz.ntmps3
  go_wp2_with fail
  have L := ((Lq.mk0 w).varQ (w.heap.size) (by simp) b0 a0 x0 len0 cap0 nen0 nap0)
  refine (awake7_any _ (hT.mono L.below)).mono ?_
  rintro e w1 ⟨rfl, be⟩
  replace L := L.step be
  clear be
  have c00 := L.b0.c30
  have c01 := L.b0.c31
  have c02 := L.b0.c32
  go_wp2_with fail
  refine (millRat_any b0 z0 y0 10 a0 x0 len0 cap0 nen0 nap0 _ (h0.1.mono L.below) (h0.2.mono L.below) (by omega)).mono ?_
  rintro e w2 ⟨vx, ok, a, d, rfl, ix, la, ld, hv, be⟩
  clear c00 c01 c02
  replace L := (L.step be).q ix
  obtain ⟨A, c, B, i, rfl, _, _, _⟩ := ix.form
  clear be ix
  have hl0 := L.b0.lt
  replace L := L.varQ w2.heap.size rfl (ng a) A B (zl a) c (len d) i
  cases ok
  · go_wp2_with fail
    go_ret
    exact ⟨rfl, L.below⟩
  · have HV := Lib.hid (hv rfl)
    clear hv
    have hd0 : 0 < d := by obtain ⟨q, _, e1⟩ := HV.out; rw [e1]; exact den_pos' q
    have P1 := Lib.hid (fun v W k1 => pfloor_any a d v W k1 (by omega) (by omega) hd0)
    have P2 := Lib.hid (fun v W k1 => rfloor7_any a d v W k1 (by omega) (by omega) hd0)
    have hF1 : a / (d : Int) * (d : Int) ≤ a := Int.ediv_mul_le a (by omega)
    have hF2 : a < (a / (d : Int) + 1) * (d : Int) := Int.lt_ediv_add_one_mul_self a (by omega)
    have hzF : zl (a / (d : Int)) ≤ 12 := by
      unfold zl
      refine Nat.le_trans (len_mono (y := a.natAbs + 1) ?_) (Nat.le_trans (len_add a.natAbs 1) ?_)
      · have h1 : (a / (d : Int)).natAbs ≤ a.natAbs + 1 := by
          rcases Int.le_total 0 a with h | h
          · have h2 : 0 ≤ a / (d : Int) := Int.ediv_nonneg h (by omega)
            have h3 : a / (d : Int) ≤ a := Int.ediv_le_self _ h
            omega
          · have h2 : a ≤ a / (d : Int) := by
              have h5 : ∀ n : Nat, -(n : Int) * (d : Int) ≤ -(n : Int) := fun n => by
                rw [Int.neg_mul, ← Int.natCast_mul]
                have := Nat.le_mul_of_pos_right n hd0
                omega
              have h4 := h5 a.natAbs
              rw [show -((a.natAbs : Nat) : Int) = a by omega] at h4
              exact Int.le_ediv_of_mul_le (by omega) h4
            have h3 : a / (d : Int) ≤ 0 := Int.ediv_nonpos_of_nonpos_of_neg h (by omega)
            omega
        exact h1
      · have h1 : len a.natAbs ≤ 11 := la
        have h2 : len 1 ≤ 1 := len_le1 (by omega)
        omega
    obtain ⟨F, hFe⟩ : ∃ F, a / (d : Int) = F := ⟨_, rfl⟩
    rw [hFe] at P1 P2 hF1 hF2 hzF
    have l1 : zl 1 ≤ 1 := len_le1 (show 1 < 4294967296 by omega)
    have l2 : len 1 ≤ 1 := len_le1 (by omega)
    have hzF1 := zl_add F 1
    have p3 := fun v u W k1 k2 => pmake_any F 1 v u W k1 k2 (by omega) (by omega) (by omega)
    rw [rat_of F, show ((F : Int) : Rat).num = F from rfl, show ((F : Int) : Rat).den = 1 from rfl] at p3
    have P3 := Lib.hid p3
    have P4 := Lib.hid (fun W => zof_any 1 W (by omega) (by omega))
    have p5 := fun v u W k1 k2 => rcmp7_any F 1 a d v u W k1 k2 (by omega) (by omega) (by omega) (by omega)
    have hK1 : decide (cmpI (F * (d : Int)) (a * ((1 : Nat) : Int)) ≤ 0) = true := by
      refine decide_eq_true ?_
      have e : a * ((1 : Nat) : Int) = a := Int.mul_one a
      rw [e]
      unfold cmpI
      (repeat' split) <;> omega
    have P5 := Lib.hid p5
    have p6 := fun W => rofn7_any 1 W (by omega) (by omega)
    unfold RetQ at p6
    rw [show ((1 : Int) : Rat).num = 1 from rfl, show ((1 : Int) : Rat).den = 1 from rfl] at p6
    have P6 := Lib.hid p6
    have p7 := fun v u W k1 k2 => radd7_any F 1 1 1 v u W k1 k2 (by omega) (by omega) (by omega) (by omega) (by omega) (by omega)
    unfold RetQ at p7
    have e7 : Rat.divInt (F * ((1 : Nat) : Int) + 1 * ((1 : Nat) : Int)) (((1 : Nat) : Int) * ((1 : Nat) : Int)) = ((F + 1 : Int) : Rat) := by
      rw [← rat_of]
      congr 1
      show F * 1 + 1 * 1 = F + 1
      omega
    rw [e7, show ((F + 1 : Int) : Rat).num = F + 1 from rfl, show ((F + 1 : Int) : Rat).den = 1 from rfl] at p7
    have P7 := Lib.hid p7
    have p8 := fun v u W k1 k2 => rcmp7_any a d (F + 1) 1 v u W k1 k2 (by omega) (by omega) (by omega) (by omega)
    have hK2 : decide (cmpI (a * ((1 : Nat) : Int)) ((F + 1) * (d : Int)) < 0) = true := by
      refine decide_eq_true ?_
      have e : a * ((1 : Nat) : Int) = a := Int.mul_one a
      rw [e, cmpI_lt hF2]
      omega
    have P8 := Lib.hid p8
    have P9 := Lib.hid (fun v u W k1 k2 => zsame_yes F F v u W k1 k2 rfl)
    clear p3 p5 p6 p7 p8 e7 hF1 hF2 hzF hzF1 l1 l2 hFe hd0 HV la ld hT h0
    generalize cmpI (F * (d : Int)) (a * ((1 : Nat) : Int)) = K1 at *
    generalize cmpI (a * ((1 : Nat) : Int)) ((F + 1) * (d : Int)) = K2 at *
    obtain ⟨F1, hF1⟩ : ∃ F1, F + 1 = F1 := ⟨_, rfl⟩
    rw [hF1] at P7 P8
    clear hF1
    go_wp2_with fail
    obtain ⟨g, hg⟩ : ∃ g, w2.heap.size = g := ⟨_, rfl⟩
    rw [hg] at L hl0 ⊢
    clear hg
    have c00 := L.b0.c30
    have c01 := L.b0.c31
    have c02 := L.b0.c32
    have c10 := L.tl.b0.c30
    have c11 := L.tl.b0.c31
    have c12 := L.tl.b0.c32
    refine (P1.out _ _ (L.getQ (by simp))).mono ?_
    rintro e w3 ⟨v3, rfl, iz, be⟩
    clear c00 c01 c02 c10 c11 c12
    replace L := (L.step be).z iz
    obtain ⟨A3, c3, rfl, _⟩ := iz.form
    clear be iz
    have hl1 := L.b0.lt
    replace L := L.varZ w3.heap.size rfl (ng F) A3 (zl F) c3
    have c00 := L.b0.c20
    have c01 := L.b0.c21
    have c10 := L.tl.b0.c30
    have c11 := L.tl.b0.c31
    have c12 := L.tl.b0.c32
    have c20 := L.tl.tl.b0.c30
    have c21 := L.tl.tl.b0.c31
    have c22 := L.tl.tl.b0.c32
    go_wp2_with fail
    clear c00 c01 c10 c11 c12 c20 c21 c22
    obtain ⟨gf, hg⟩ : ∃ g, w3.heap.size = g := ⟨_, rfl⟩
    rw [hg] at L hl1 ⊢
    clear hg
    obtain ⟨V, hV⟩ : ∃ V, w3.alloc (.cells #[.bool (ng F), .slice A3 (zl F) c3] 24) = V := ⟨_, rfl⟩
    rw [hV] at L ⊢
    clear hV
    have hgm0 := L.b0.lt
    have Q0 := Lib.hid (fun Z (hZ : Below V.heap.size V Z) => (L.b0.mono hZ).c20)
    have Q1 := Lib.hid (fun Z (hZ : Below V.heap.size V Z) => (L.b0.mono hZ).c21)
    have GZ := Lib.hid (L.getZ (v := .agg #[.bool (ng F), .slice A3 (zl F) c3]) (x := F) (by simp))
    have LL := Lib.hid L
    have D0 : Dq V V [] [(.agg #[.bool (ng F), .slice A3 (zl F) c3], F)] [] [] := ⟨(Lq.mk0 V).z GZ.out, List.nodup_nil, fun p hp => by cases hp⟩
    clear L GZ
    have D := D0.drew
    obtain ⟨M, hM⟩ : ∃ M, V.heap.size = M := ⟨_, rfl⟩
    have hz0 : M ≤ V.heap.size := by omega
    have hgx : gf < M := by omega
    have hmd : V.drew.heap.size = M := hM
    go_cut [6, 7] from 19 to 24 (fun s6 s7 wx => Made1Q V F 1 s6 wx ∧ s7 = .int .i64 0)
    case first =>
      go_region_held3 (fun w' => w'.cell? ⟨gf, 0, none⟩ = some (.bool (ng F)) ∧ w'.cell? ⟨gf, 1, none⟩ = some (.slice A3 (zl F) c3)) (((try dsimp only); refine ⟨?_, ?_⟩ <;> (repeat (first | (with_reducible exact Q0.out _ D.lq.below) | (with_reducible exact Q0.out _ D0.lq.below) | (with_reducible exact Q1.out _ D.lq.below) | (with_reducible exact Q1.out _ D0.lq.below) | (with_reducible refine c_alloc _ ?_) | (with_reducible refine c_drew ?_) | (with_reducible refine c_set ?_ hgx ?_) | omega)))) (first | (go_at_call 10; (with_reducible refine (P4.out _).mono ?_); rintro e wh ⟨vh, rfl, iz, be⟩; (first | (replace D := (D.step be).z iz) | (replace D := ((D.boxM hmd false none none 0 0 0 0).step be).z iz) | (replace D := ((D.box false none none 0 0 0 0).step be).z iz)); have hz := be.size; (try simp at hz); (try (have x00 := D.lq.b0.c30; have x01 := D.lq.b0.c31; have x02 := D.lq.b0.c32; have y00 := D.lq.b0.fr 0; have y01 := D.lq.b0.fr 1; have y02 := D.lq.b0.fr 2)); (try obtain ⟨na, nb, nc, nd, nl⟩ := D.n0)) | (go_at_call 9; (with_reducible refine (P3.out _ _ _ ?_ ?_).mono ?_); (· (first | (with_reducible refine D.getZ ?_; (repeat (first | (with_reducible exact List.mem_cons_self) | apply List.mem_cons_of_mem))) | (with_reducible refine (D.box false none none 0 0 0 0).getZ ?_; (repeat (first | (with_reducible exact List.mem_cons_self) | apply List.mem_cons_of_mem))) | (with_reducible refine (D0.box false none none 0 0 0 0).drew.getZ ?_; (repeat (first | (with_reducible exact List.mem_cons_self) | apply List.mem_cons_of_mem))))); (· (first | (with_reducible refine D.getZ ?_; (repeat (first | (with_reducible exact List.mem_cons_self) | apply List.mem_cons_of_mem))) | (with_reducible refine (D.box false none none 0 0 0 0).getZ ?_; (repeat (first | (with_reducible exact List.mem_cons_self) | apply List.mem_cons_of_mem))) | (with_reducible refine (D0.box false none none 0 0 0 0).drew.getZ ?_; (repeat (first | (with_reducible exact List.mem_cons_self) | apply List.mem_cons_of_mem))))); rintro e wh ⟨vh, rfl, iq, be⟩; (first | (replace D := (D.step be).q iq) | (replace D := ((D.boxM hmd false none none 0 0 0 0).step be).q iq) | (replace D := ((D.box false none none 0 0 0 0).step be).q iq)); have hz := be.size; (try simp at hz); obtain ⟨A9, c9, B9, d9, rfl, _, _, _⟩ := iq.form; (try (have x00 := D.lq.b0.c30; have x01 := D.lq.b0.c31; have x02 := D.lq.b0.c32; have y00 := D.lq.b0.fr 0; have y01 := D.lq.b0.fr 1; have y02 := D.lq.b0.fr 2)); (try obtain ⟨na, nb, nc, nd, nl⟩ := D.n0)))
      all_goals
        go_wp2_with fail
        go_meet
        refine ⟨?_, rfl⟩
        first
        | ((with_reducible refine made1q_a D ?_) <;> (repeat (first | (with_reducible exact List.mem_cons_self) | apply List.mem_cons_of_mem)))
        | ((with_reducible refine made1q_b D ?_) <;> (repeat (first | (with_reducible exact List.mem_cons_self) | apply List.mem_cons_of_mem)))
    case rest =>
      obtain ⟨⟨g4, A4, c4, B4, d4, rfl, hg4, bw, hbx, hqq⟩, rfl⟩ := hcut
      have L := ((LL.out.step bw).q hqq).b hbx
      clear D D0 hmd hz0 hgx Q0 Q1 LL bw hbx hqq hg4 hM P3 P4 hgm0
      generalize wc = wd at *
      go_wp2_with fail
      replace L := L.drew
      have c00 := L.b0.c30
      have c01 := L.b0.c31
      have c02 := L.b0.c32
      have c10 := L.tl.b0.c20
      have c11 := L.tl.b0.c21
      have c20 := L.tl.tl.b0.c30
      have c21 := L.tl.tl.b0.c31
      have c22 := L.tl.tl.b0.c32
      have c30 := L.tl.tl.tl.b0.c30
      have c31 := L.tl.tl.tl.b0.c31
      have c32 := L.tl.tl.tl.b0.c32
      go_region_held3 (fun w' => w'.cell? ⟨g4, 0, none⟩ = some (.bool (ng F)) ∧ w'.cell? ⟨g4, 1, none⟩ = some (.slice A4 (zl F) c4) ∧ w'.cell? ⟨g4, 2, none⟩ = some (.slice B4 (len 1) d4) ∧ w'.cell? ⟨gf, 0, none⟩ = some (.bool (ng F)) ∧ w'.cell? ⟨gf, 1, none⟩ = some (.slice A3 (zl F) c3) ∧ w'.cell? ⟨g, 0, none⟩ = some (.bool (ng a)) ∧ w'.cell? ⟨g, 1, none⟩ = some (.slice A (zl a) c) ∧ w'.cell? ⟨g, 2, none⟩ = some (.slice B (len d) i)) (first | (with_reducible exact ⟨L.b0.c30, L.b0.c31, L.b0.c32, L.tl.b0.c20, L.tl.b0.c21, L.tl.tl.b0.c30, L.tl.tl.b0.c31, L.tl.tl.b0.c32⟩) | exact ⟨L.b0.c30, L.b0.c31, L.b0.c32, L.tl.b0.c20, L.tl.b0.c21, L.tl.tl.b0.c30, L.tl.tl.b0.c31, L.tl.tl.b0.c32⟩) (first | (go_at_call 12; (with_reducible refine (P2.out _ _ ?_ ).mono ?_); (· (refine L.getQ ?_; (repeat (first | (with_reducible exact List.mem_cons_self) | apply List.mem_cons_of_mem)))); rintro e wh ⟨vh, rfl, iz, be⟩; replace L := (L.step be).z iz; clear be iz) | (go_at_call 11; (with_reducible refine (P9.out _ _ _ ?_ ?_ ).mono ?_); (· (refine L.getZ ?_; (repeat (first | (with_reducible exact List.mem_cons_self) | apply List.mem_cons_of_mem)))); (· (refine L.getZ ?_; (repeat (first | (with_reducible exact List.mem_cons_self) | apply List.mem_cons_of_mem)))); rintro e wh ⟨rfl, be⟩; replace L := L.step be; clear be) | (go_at_call 13; (with_reducible refine (P5.out _ _ _ ?_ ?_ ).mono ?_); (· (refine L.getQ ?_; (repeat (first | (with_reducible exact List.mem_cons_self) | apply List.mem_cons_of_mem)))); (· (refine L.getQ ?_; (repeat (first | (with_reducible exact List.mem_cons_self) | apply List.mem_cons_of_mem)))); rintro e wh ⟨rfl, be⟩; replace L := L.step be; clear be) | (go_at_call 15; (with_reducible refine (P6.out _ ).mono ?_); rintro e wh ⟨vh, rfl, iq, be⟩; replace L := (L.step be).q iq; clear be iq) | (go_at_call 14; (with_reducible refine (P7.out _ _ _ ?_ ?_ ).mono ?_); (· (refine L.getQ ?_; (repeat (first | (with_reducible exact List.mem_cons_self) | apply List.mem_cons_of_mem)))); (· (refine L.getQ ?_; (repeat (first | (with_reducible exact List.mem_cons_self) | apply List.mem_cons_of_mem)))); rintro e wh ⟨vh, rfl, iq, be⟩; replace L := (L.step be).q iq; clear be iq) | (go_at_call 13; (with_reducible refine (P8.out _ _ _ ?_ ?_ ).mono ?_); (· (refine L.getQ ?_; (repeat (first | (with_reducible exact List.mem_cons_self) | apply List.mem_cons_of_mem)))); (· (refine L.getQ ?_; (repeat (first | (with_reducible exact List.mem_cons_self) | apply List.mem_cons_of_mem)))); rintro e wh ⟨rfl, be⟩; replace L := L.step be; clear be))
      clear c00 c01 c02 c10 c11 c20 c21 c22 c30 c31 c32
      go_wp2_with fail
      go_ret
      exact ⟨rfl, L.below⟩

end Go.Proofs.YtbndgggjfjdfbabGreatDoor
