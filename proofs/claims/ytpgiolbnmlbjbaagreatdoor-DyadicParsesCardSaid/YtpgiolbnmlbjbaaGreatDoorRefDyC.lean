/- The reference's Make. -/
import Derived.Test.YtpgiolbnmlbjbaaGreatDoorRefDyB
import Derived.Test.YtpgiolbnmlbjbaaGreatDoorDyWays
import Derived.Test.YtpgiolbnmlbjbaaGreatDoorBaseR
import Derived.Deep.RegionHeld3
import Derived.Deep.DrawnRows
import Derived.Deep.Cut
import Derived.Deep.CutRange
namespace Go.Proofs.YtpgiolbnmlbjbaaGreatDoor
open Go.RowKit
set_option linter.unusedVariables false
set_option linter.unusedSimpArgs false
set_option maxRecDepth 100000
attribute [local go_sem ↓] Go.wp_at_zero Go.wp_at_succ
theorem tz_le8 (x : Nat) (h : 0 < x) : tz x ≤ 32 * len x := by
  obtain ⟨k, hk⟩ := tz_form h
  have h1 : 2 ^ tz x ≤ x := by
    have : 2 ^ tz x * 1 ≤ 2 ^ tz x * (2 * k + 1) := Nat.mul_le_mul_left _ (by omega)
    omega
  have h2 := Nat.lt_of_le_of_lt h1 (lt_two_pow_blen x)
  have h3 := (Nat.pow_lt_pow_iff_right (by omega : 1 < 2)).1 h2
  have := blen_le_len x
  omega

set_option maxHeartbeats 4000000 in
theorem rmake8_any (m e : Int) (vm : Value) (w : World) (hm : IsZ w vm m) (lm : zl m ≤ 1000000) :
    Calls Tryz.prog 15 #[vm, .int .i64 e] w (RetDE w (mkM m e) (mkE m e) (mkR m e)) := by
  obtain ⟨A, c, rfl, hn⟩ := hm.form
  have L0 := (Lq.mk0 w).n hn
  obtain ⟨R, hR⟩ : ∃ R, mkR m e = R := ⟨_, rfl⟩
  obtain ⟨M2, hM2⟩ : ∃ M2, mkM m e = M2 := ⟨_, rfl⟩
  obtain ⟨E2, hE2⟩ : ∃ E2, mkE m e = E2 := ⟨_, rfl⟩
  rw [hR, hM2, hE2]
  unfold mkM at hM2
  unfold mkE at hE2
  rw [hR] at hM2 hE2
  unfold mkR at hR
  by_cases q1 : e < -131072
  · obtain rfl : 1 = R := by rw [← hR, if_pos (Or.inl q1)]
    obtain rfl : 0 = M2 := by simpa using hM2
    obtain rfl : 0 = E2 := by simpa using hE2
    have b1 : decide (e < -131072) = true := decide_eq_true q1
    clear hR hM2 hE2 hm hn
    go_enter Tryz.func15, Tryz.ntmps15
    go_wp2_with fail
    have L := ((L0.varZ (w.heap.size) (by simp) (ng m) A (zl m) c).varD (w.heap.size + 1) (by simp) false none 0 0 0)
    have c00 := L.b0.c30
    have f00 := L.b0.fr 0
    have c01 := L.b0.c31
    have f01 := L.b0.fr 1
    have c02 := L.b0.c32
    have f02 := L.b0.fr 2
    have c10 := L.tl.b0.c20
    have f10 := L.tl.b0.fr 0
    have c11 := L.tl.b0.c21
    have f11 := L.tl.b0.fr 1
    (try go_wp2_with fail)
    exact bodyPost_ret (v := .tuple #[.agg #[.bool false, .slice none 0 0, .int .i64 0], .int .i64 1]) (by simp [results, Tryz.results15, go_sem, c00, c01, c02]) rfl ⟨_, rfl, isD_zero _, L.below⟩
  · have b1 : decide (e < -131072) = false := decide_eq_false q1
    by_cases q2 : 131072 < e
    · obtain rfl : 1 = R := by rw [← hR, if_pos (Or.inr q2)]
      obtain rfl : 0 = M2 := by simpa using hM2
      obtain rfl : 0 = E2 := by simpa using hE2
      have b2 : decide (131072 < e) = true := decide_eq_true q2
      clear hR hM2 hE2 hm hn
      go_enter Tryz.func15, Tryz.ntmps15
      go_wp2_with fail
      have L := ((L0.varZ (w.heap.size) (by simp) (ng m) A (zl m) c).varD (w.heap.size + 1) (by simp) false none 0 0 0)
      have c00 := L.b0.c30
      have f00 := L.b0.fr 0
      have c01 := L.b0.c31
      have f01 := L.b0.fr 1
      have c02 := L.b0.c32
      have f02 := L.b0.fr 2
      have c10 := L.tl.b0.c20
      have f10 := L.tl.b0.fr 0
      have c11 := L.tl.b0.c21
      have f11 := L.tl.b0.fr 1
      (try go_wp2_with fail)
      exact bodyPost_ret (v := .tuple #[.agg #[.bool false, .slice none 0 0, .int .i64 0], .int .i64 1]) (by simp [results, Tryz.results15, go_sem, c00, c01, c02]) rfl ⟨_, rfl, isD_zero _, L.below⟩
    · have b2 : decide (131072 < e) = false := decide_eq_false q2
      rw [if_neg (by omega)] at hR
      rcases Nat.eq_zero_or_pos (zl m) with h0 | h0
      · obtain rfl := zl_eq_zero h0
        obtain rfl : 0 = R := by simpa using hR
        obtain rfl : 0 = M2 := by simpa [oddM_zero] using hM2
        obtain rfl : 0 = E2 := by simpa using hE2
        rw [h0]
        rw [h0] at L0
        clear hR hM2 hE2 hm hn
        go_enter Tryz.func15, Tryz.ntmps15
        go_wp2_with fail
        have L := ((L0.varZ (w.heap.size) (by simp) (ng 0) A 0 c).varD (w.heap.size + 1) (by simp) false none 0 0 0)
        have c00 := L.b0.c30
        have f00 := L.b0.fr 0
        have c01 := L.b0.c31
        have f01 := L.b0.fr 1
        have c02 := L.b0.c32
        have f02 := L.b0.fr 2
        have c10 := L.tl.b0.c20
        have f10 := L.tl.b0.fr 0
        have c11 := L.tl.b0.c21
        have f11 := L.tl.b0.fr 1
        (try go_wp2_with fail)
        exact bodyPost_ret (v := .tuple #[.agg #[.bool false, .slice none 0 0, .int .i64 0], .int .i64 0]) (by simp [results, Tryz.results15, go_sem, c00, c01, c02]) rfl ⟨_, rfl, isD_zero _, L.below⟩
      · have hm0 : m ≠ 0 := fun h => by rw [h, zl_zero] at h0; omega
        have hp : (0 : Int) < (zl m : Int) := by omega
        rw [if_neg hm0] at hR hE2
        have hlm : len m.natAbs ≤ 1000000 := lm
        have hM0 : oddM m ≠ 0 := fun h => by have := oddM_pos hm0; rw [h] at this; exact absurd this (by decide)
        have hzl := zl_odd m
        have HT := Lib.hid (fun v W h => rzeros_any m.natAbs v W h (by omega))
        have hzz : tz m.natAbs ≤ 32000000 := by
          have := tz_le8 m.natAbs (by omega)
          omega
        have hso : oddM m = sg (ng m) (m.natAbs / 2 ^ tz m.natAbs) := rfl
        have hse : oddE m e = e + (tz m.natAbs : Int) := rfl
        have HV := Lib.hid (fun v W h => rvalid8_d (oddM m) (oddE m e) v W h (by omega))
        rw [if_neg hM0] at HV
        obtain ⟨z, hz⟩ : ∃ z, tz m.natAbs = z := ⟨_, rfl⟩
        rw [hz] at HT hzz hso hse
        have hyl : len (m.natAbs / 2 ^ z) ≤ 1000000 := Nat.le_trans (len_mono (Nat.div_le_self _ _)) hlm
        have HS := Lib.hid (fun v W h => rshrK_any m.natAbs z v W h (by omega) (by omega))
        obtain ⟨y, hy⟩ : ∃ y, m.natAbs / 2 ^ z = y := ⟨_, rfl⟩
        rw [hy] at HS hso hyl
        have HN := Lib.hid (fun v W h => rznatN_any (ng m) y v W h (by omega))
        rw [← hso] at HN
        obtain ⟨ok, hok⟩ : ∃ ok, fits8 (oddM m) (oddE m e) = ok := ⟨_, rfl⟩
        rw [hok] at hR HV
        obtain ⟨M, hM⟩ : ∃ M, oddM m = M := ⟨_, rfl⟩
        obtain ⟨E, hE⟩ : ∃ E, oddE m e = E := ⟨_, rfl⟩
        rw [hM] at hM2 HV HN
        rw [hE] at hE2 HV hse
        have hw : IntKind.i64.wrap (e + (z : Int)) = E := by rw [hse, IntKind.wrap_i64]; omega
        have HF : (ok = false → R = 3 ∧ M2 = 0 ∧ E2 = 0) ∧ (ok = true → R = 0 ∧ M2 = M ∧ E2 = E) := by
          refine ⟨fun h => ?_, fun h => ?_⟩ <;> subst h <;> simp at hR <;> subst hR <;> simp at hM2 hE2 <;> exact ⟨rfl, hM2.symm, hE2.symm⟩
        clear hR hM2 hE2 hso hse hM0 hzl hok hM hE hy hz hyl hlm hm0 h0
        go_enter Tryz.func15, Tryz.ntmps15
        go_wp2_with fail
        have L := ((L0.varZ (w.heap.size) (by simp) (ng m) A (zl m) c).varD (w.heap.size + 1) (by simp) false none 0 0 0)
        have c00 := L.b0.c30
        have f00 := L.b0.fr 0
        have c01 := L.b0.c31
        have f01 := L.b0.fr 1
        have c02 := L.b0.c32
        have f02 := L.b0.fr 2
        have c10 := L.tl.b0.c20
        have f10 := L.tl.b0.fr 0
        have c11 := L.tl.b0.c21
        have f11 := L.tl.b0.fr 1
        (try go_wp2_with fail)
        refine (HT.out _ _ (L.getN (by simp))).mono ?_
        rintro e w' ⟨rfl, rfl⟩
        clear c00 f00 c01 f01 c02 f02 c10 f10 c11 f11
        have HNm := Lib.hid (hn.mono L.below)
        obtain ⟨V, hV⟩ : ∃ V, (w.alloc (.cells #[.bool (ng m), .slice A (zl m) c] 24)).alloc (.cells #[.bool false, .slice none 0 0, .int .i64 0] 26) = V := ⟨_, rfl⟩
        rw [hV] at L HNm ⊢
        clear hV
        have hgm0 := L.b0.lt
        have Q0 := Lib.hid (fun Z (hZ : Below V.heap.size V Z) => (L.tl.b0.mono hZ).c20)
        have Q1 := Lib.hid (fun Z (hZ : Below V.heap.size V Z) => (L.tl.b0.mono hZ).c21)
        have LL := Lib.hid L
        clear L hn hm
        have c00 := LL.out.b0.c30
        have c01 := LL.out.b0.c31
        have c02 := LL.out.b0.c32
        have c10 := LL.out.tl.b0.c20
        have c11 := LL.out.tl.b0.c21
        go_wp2_with fail
        clear c00 c01 c02 c10 c11
        have D0 : Dq V V [(.slice A (zl m) c, m.natAbs)] [] [] [] := ⟨(Lq.mk0 V).n HNm.out, List.nodup_nil, fun p hp => by cases hp⟩
        have D := D0.drew
        obtain ⟨K, hK⟩ : ∃ K, V.heap.size = K := ⟨_, rfl⟩
        have hz0 : K ≤ V.heap.size := by omega
        have hmx : w.heap.size < K := by omega
        have hmd : V.drew.heap.size = K := hK
        go_cut [7] from 23 to 33 (fun s5 wx => Made1D V M E s5 wx)
        case first =>
          go_region_held3 (fun w' => w'.cell? ⟨w.heap.size, 0, none⟩ = some (.bool (ng m)) ∧ w'.cell? ⟨w.heap.size, 1, none⟩ = some (.slice A (zl m) c)) (((try dsimp only); refine ⟨?_, ?_⟩ <;> (repeat (first | (with_reducible exact Q0.out _ D.lq.below) | (with_reducible exact Q0.out _ D0.lq.below) | (with_reducible exact Q1.out _ D.lq.below) | (with_reducible exact Q1.out _ D0.lq.below) | (with_reducible refine c_alloc _ ?_) | (with_reducible refine c_drew ?_) | (with_reducible refine c_set ?_ (by assumption) ?_) | omega)))) (first | (go_at_call 60; (with_reducible refine (HS.out _ _ ?_ ).mono ?_); (· (first | (with_reducible refine D.getN ?_; (repeat (first | (with_reducible exact List.mem_cons_self) | apply List.mem_cons_of_mem))) | (with_reducible refine (D.boxD false none 0 0 0).getN ?_; (repeat (first | (with_reducible exact List.mem_cons_self) | apply List.mem_cons_of_mem))) | (with_reducible refine (D0.boxD false none 0 0 0).drew.getN ?_; (repeat (first | (with_reducible exact List.mem_cons_self) | apply List.mem_cons_of_mem))))); rintro e9 wh ⟨vh, rfl, o9⟩; (first | (replace D := (D.step o9.below).n o9.isN) | (replace D := ((D.boxMD hmd false none 0 0 0).step o9.below).n o9.isN) | (replace D := ((D.boxD false none 0 0 0).step o9.below).n o9.isN)); have hz := (o9.below).size; (try simp at hz); (try (have x00 := D.lq.b0.c30; have x01 := D.lq.b0.c31; have x02 := D.lq.b0.c32; have y00 := D.lq.b0.fr 0; have y01 := D.lq.b0.fr 1; have y02 := D.lq.b0.fr 2)); (try obtain ⟨na, nb, nc, nd, nl⟩ := D.n0)) | (go_at_call 53; (with_reducible refine (HN.out _ _ ?_ ).mono ?_); (· (first | (with_reducible refine D.getN ?_; (repeat (first | (with_reducible exact List.mem_cons_self) | apply List.mem_cons_of_mem))) | (with_reducible refine (D.boxD false none 0 0 0).getN ?_; (repeat (first | (with_reducible exact List.mem_cons_self) | apply List.mem_cons_of_mem))) | (with_reducible refine (D0.boxD false none 0 0 0).drew.getN ?_; (repeat (first | (with_reducible exact List.mem_cons_self) | apply List.mem_cons_of_mem))))); rintro e9 wh ⟨vh, rfl, iz, be⟩; obtain ⟨A9, c9, rfl, in9⟩ := iz.form; (first | (replace D := (D.step be).n in9) | (replace D := ((D.boxMD hmd false none 0 0 0).step be).n in9) | (replace D := ((D.boxD false none 0 0 0).step be).n in9)); have hz := (be).size; (try simp at hz); (try (have x00 := D.lq.b0.c30; have x01 := D.lq.b0.c31; have x02 := D.lq.b0.c32; have y00 := D.lq.b0.fr 0; have y01 := D.lq.b0.fr 1; have y02 := D.lq.b0.fr 2)); (try obtain ⟨na, nb, nc, nd, nl⟩ := D.n0)))
          all_goals
            go_wp2_with fail
            go_meet
            first
            | ((with_reducible refine made1d_a D ?_) <;> (repeat (first | (with_reducible exact List.mem_cons_self) | apply List.mem_cons_of_mem)))
            | ((with_reducible refine made1d_b D ?_) <;> (repeat (first | (with_reducible exact List.mem_cons_self) | apply List.mem_cons_of_mem)))
        case rest =>
          obtain ⟨g2, A3, c5, rfl, hg2, bw, hbx, hqq⟩ := hcut
          have L := ((LL.out.step bw).n hqq).b hbx
          clear D D0 hmd hz0 Q0 Q1 LL HNm
          generalize wc = wd at *
          have hne : w.heap.size + 1 ≠ g2 := by omega
          have c00 := L.b0.c30
          have c01 := L.b0.c31
          have c02 := L.b0.c32
          have c10 := L.tl.b0.c30
          have c11 := L.tl.b0.c31
          have c12 := L.tl.b0.c32
          have c20 := L.tl.tl.b0.c20
          have c21 := L.tl.tl.b0.c21
          go_wp2_with fail
          refine (HV.out _ _ (isD_n L.hn)).mono ?_
          rintro e w1 ⟨rfl, be⟩
          clear c00 c01 c02 c10 c11 c12 c20 c21
          replace L := L.step be
          clear be
          have c00 := L.b0.c30
          have f00 := L.b0.fr 0
          have c01 := L.b0.c31
          have f01 := L.b0.fr 1
          have c02 := L.b0.c32
          have f02 := L.b0.fr 2
          have c10 := L.tl.b0.c30
          have f10 := L.tl.b0.fr 0
          have c11 := L.tl.b0.c31
          have f11 := L.tl.b0.fr 1
          have c12 := L.tl.b0.c32
          have f12 := L.tl.b0.fr 2
          have c20 := L.tl.tl.b0.c20
          have c21 := L.tl.tl.b0.c21
          cases ok
          · obtain ⟨rfl, rfl, rfl⟩ := HF.1 rfl
            go_wp2_with fail
            have LP := L.swap.putD (by omega) (by first | (simp; done) | (simp; omega)) false none (0) 0 (0)
            have k0 := LP.b0.c30
            have k1 := LP.b0.c31
            have k2 := LP.b0.c32
            unfold put3 at k0 k1 k2
            exact bodyPost_ret (v := .tuple #[.agg #[.bool false, .slice none (0) 0, .int .i64 (0)], .int .i64 3]) (by simp [results, Tryz.results15, go_sem, k0, k1, k2]) rfl ⟨_, rfl, isD_zero _, LP.below⟩
          · obtain ⟨rfl, rfl, rfl⟩ := HF.2 rfl
            go_wp2_with fail
            have LP := L.swap.putD (by omega) (by first | (simp; done) | (simp; omega)) (ng M2) A3 (zl M2) c5 (E2)
            have k0 := LP.b0.c30
            have k1 := LP.b0.c31
            have k2 := LP.b0.c32
            unfold put3 at k0 k1 k2
            exact bodyPost_ret (v := .tuple #[.agg #[.bool (ng M2), .slice A3 (zl M2) c5, .int .i64 (E2)], .int .i64 0]) (by simp [results, Tryz.results15, go_sem, k0, k1, k2]) rfl ⟨_, rfl, isD_n LP.hn, LP.below⟩


end Go.Proofs.YtpgiolbnmlbjbaaGreatDoor
