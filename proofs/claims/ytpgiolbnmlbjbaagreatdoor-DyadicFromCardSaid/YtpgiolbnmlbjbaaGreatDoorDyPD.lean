/- The program's Rat, From. -/
import Derived.Test.YtpgiolbnmlbjbaaGreatDoorDyPB
import Derived.Test.YtpgiolbnmlbjbaaGreatDoorRefDyE
import Derived.Deep.RegionHeld3
import Derived.Deep.DrawnRows
namespace Go.Proofs.YtpgiolbnmlbjbaaGreatDoor
open Go.RowKit
set_option linter.unusedVariables false
set_option linter.unusedSimpArgs false
set_option maxRecDepth 100000
attribute [local go_sem ↓] Go.wp_at_zero Go.wp_at_succ

set_option maxHeartbeats 4000000 in
theorem drat_any (m e : Int) (vx : Value) (w : World) (hx : IsD w vx m e) (lm : zl m ≤ 100000) (he : -200000 ≤ e ∧ e ≤ 200000) :
    Calls Tryz.prog 27 #[vx] w (RetP w (m * 2 ^ e.toNat) (2 ^ (-e).toNat)) := by
  obtain ⟨A, c, rfl, hz, hn⟩ := hx.form
  have L0 := ((Lq.mk0 w).z hz).n hn
  clear hx
  by_cases h0 : 0 ≤ e
  · have b0 : decide (0 ≤ e) = true := decide_eq_true h0
    obtain ⟨p, hp⟩ : ∃ p : Nat, e = (p : Int) := ⟨e.toNat, by omega⟩
    subst hp
    rw [show ((p : Int)).toNat = p from Int.toNat_natCast p, show (-(p : Int)).toNat = 0 from by omega, Nat.pow_zero]
    have H1 := Lib.hid (fun v W h => zshl_any m v W h (by omega) p (by omega))
    have ho : ∀ W, Calls Tryz.prog 74 #[.int .u64 1] W (RetN W 1) := fun W => of_any 1 W (by omega)
    have HO := Lib.hid ho
    clear ho
    clear hz hn he lm
    generalize m * 2 ^ p = a at *
    go_enter Tryz.func27, Tryz.ntmps27
    go_wp2_with fail
    have L := ((L0.varD (w.heap.size) (by simp) (ng m) A (zl m) c (p : Int)).varQ (w.heap.size + 1) (by simp) false none none 0 0 0 0)
    have c00 := L.b0.c30
    have f00 := L.b0.fr 0
    have c01 := L.b0.c31
    have f01 := L.b0.fr 1
    have c02 := L.b0.c32
    have f02 := L.b0.fr 2
    have c10 := L.tl.b0.c30
    have f10 := L.tl.b0.fr 0
    have c11 := L.tl.b0.c31
    have f11 := L.tl.b0.fr 1
    have c12 := L.tl.b0.c32
    have f12 := L.tl.b0.fr 2
    (try go_wp2_with fail)
    refine (H1.out _ _ (L.getZ (by simp))).mono ?_
    rintro e w1 ⟨v1, rfl, iz, be⟩
    clear c00 f00 c01 f01 c02 f02 c10 f10 c11 f11 c12 f12
    replace L := (L.step be).z iz
    obtain ⟨A9, c9, rfl, _⟩ := iz.form
    clear be iz
    have c00 := L.b0.c30
    have f00 := L.b0.fr 0
    have c01 := L.b0.c31
    have f01 := L.b0.fr 1
    have c02 := L.b0.c32
    have f02 := L.b0.fr 2
    have c10 := L.tl.b0.c30
    have f10 := L.tl.b0.fr 0
    have c11 := L.tl.b0.c31
    have f11 := L.tl.b0.fr 1
    have c12 := L.tl.b0.c32
    have f12 := L.tl.b0.fr 2
    (try go_wp2_with fail)
    refine (HO.out _).mono ?_
    rintro e w2 ⟨v2, rfl, o⟩
    clear c00 f00 c01 f01 c02 f02 c10 f10 c11 f11 c12 f12
    replace L := (L.step o.below).n o.isN
    obtain ⟨B9, d9, rfl⟩ := o.isN.form
    clear o
    have c00 := L.b0.c30
    have f00 := L.b0.fr 0
    have c01 := L.b0.c31
    have f01 := L.b0.fr 1
    have c02 := L.b0.c32
    have f02 := L.b0.fr 2
    have c10 := L.tl.b0.c30
    have f10 := L.tl.b0.fr 0
    have c11 := L.tl.b0.c31
    have f11 := L.tl.b0.fr 1
    have c12 := L.tl.b0.c32
    have f12 := L.tl.b0.fr 2
    (try go_wp2_with fail)
    have LP := L.putQ (by omega) (by first | (simp; done) | (simp; omega)) (ng (a)) A9 B9 (zl (a)) c9 (len (1)) d9
    have k0 := LP.b0.c30
    have k1 := LP.b0.c31
    have k2 := LP.b0.c32
    unfold put3 at k0 k1 k2
    exact bodyPost_ret (v := .agg #[.bool (ng (a)), .slice A9 (zl (a)) c9, .slice B9 (len (1)) d9]) (by simp [results, Tryz.results27, go_sem, k0, k1, k2]) rfl ⟨_, rfl, isP_of (LP.getZ (by simp)) LP.hn, LP.below⟩
  · have b0 : decide (0 ≤ e) = false := decide_eq_false h0
    obtain ⟨p, hp⟩ : ∃ p : Nat, (p : Int) = -e := ⟨(-e).toNat, by omega⟩
    rw [show e.toNat = 0 from by omega, show (-e).toNat = p from by omega, Int.pow_zero, Int.mul_one]
    have hw : IntKind.i64.wrap (-e) = (p : Int) := by rw [hp, IntKind.wrap_i64]; omega
    have h2 := fun v W h => shlK_any 1 p v W h (Nat.le_trans (len_le1 (by omega)) (by omega)) (by omega)
    rw [Nat.one_mul] at h2
    have H2 := Lib.hid h2
    have ho : ∀ W, Calls Tryz.prog 74 #[.int .u64 1] W (RetN W 1) := fun W => of_any 1 W (by omega)
    have HO := Lib.hid ho
    clear ho
    have h3 := fun v W h => znatN_any (ng m) m.natAbs v W h (Nat.le_trans lm (by omega))
    rw [sg_self] at h3
    have H3 := Lib.hid h3
    clear hz hn he lm h0 hp h2 h3
    generalize 2 ^ p = q at *
    go_enter Tryz.func27, Tryz.ntmps27
    go_wp2_with fail
    have L := ((L0.varD (w.heap.size) (by simp) (ng m) A (zl m) c e).varQ (w.heap.size + 1) (by simp) false none none 0 0 0 0)
    have c00 := L.b0.c30
    have f00 := L.b0.fr 0
    have c01 := L.b0.c31
    have f01 := L.b0.fr 1
    have c02 := L.b0.c32
    have f02 := L.b0.fr 2
    have c10 := L.tl.b0.c30
    have f10 := L.tl.b0.fr 0
    have c11 := L.tl.b0.c31
    have f11 := L.tl.b0.fr 1
    have c12 := L.tl.b0.c32
    have f12 := L.tl.b0.fr 2
    (try go_wp2_with fail)
    clear c00 f00 c01 f01 c02 f02 c10 f10 c11 f11 c12 f12
    replace L := L.drew
    have c00 := L.b0.c30
    have f00 := L.b0.fr 0
    have c01 := L.b0.c31
    have f01 := L.b0.fr 1
    have c02 := L.b0.c32
    have f02 := L.b0.fr 2
    have c10 := L.tl.b0.c30
    have c11 := L.tl.b0.c31
    have c12 := L.tl.b0.c32
    go_region_held3 (fun w' => w'.cell? ⟨w.heap.size, 0, none⟩ = some (.bool (ng m)) ∧ w'.cell? ⟨w.heap.size, 1, none⟩ = some (.slice A (zl m) c) ∧ w'.cell? ⟨w.heap.size, 2, none⟩ = some (.int .i64 e)) (first | (with_reducible exact ⟨L.tl.b0.c30, L.tl.b0.c31, L.tl.b0.c32⟩) | exact ⟨L.tl.b0.c30, L.tl.b0.c31, L.tl.b0.c32⟩ | (have LP := L.putQ (by omega) (by first | (simp; done) | (simp; omega)) (ng m) A8 B9 (zl m) c8 (len q) d9; exact ⟨LP.tl.b0.c30, LP.tl.b0.c31, LP.tl.b0.c32⟩)) (first | (go_at_call 75; (with_reducible refine (H3.out _ _ ?_ ).mono ?_); (· (refine L.getN ?_; (repeat (first | (with_reducible exact List.mem_cons_self) | apply List.mem_cons_of_mem)))); rintro e wh ⟨vh, rfl, iz, be⟩; replace L := (L.step be).z iz; obtain ⟨A8, c8, rfl, _⟩ := iz.form; clear be iz; (try (have x00 := L.b0.c30; have x01 := L.b0.c31; have x02 := L.b0.c32; have y00 := L.b0.fr 0; have y01 := L.b0.fr 1; have y02 := L.b0.fr 2))) | (go_at_call 74; (with_reducible refine (HO.out _ ).mono ?_); rintro e wh ⟨vh, rfl, o9⟩; replace L := (L.step o9.below).n o9.isN; obtain ⟨B8, d8, rfl⟩ := o9.isN.form; clear o9; (try (have x00 := L.b0.c30; have x01 := L.b0.c31; have x02 := L.b0.c32; have y00 := L.b0.fr 0; have y01 := L.b0.fr 1; have y02 := L.b0.fr 2))) | (go_at_call 76; (with_reducible refine (H2.out _ _ ?_ ).mono ?_); (· (refine L.getN ?_; (repeat (first | (with_reducible exact List.mem_cons_self) | apply List.mem_cons_of_mem)))); rintro e wh ⟨vh, rfl, o9⟩; replace L := (L.step o9.below).n o9.isN; obtain ⟨B9, d9, rfl⟩ := o9.isN.form; clear o9; (try (have x00 := L.b0.c30; have x01 := L.b0.c31; have x02 := L.b0.c32; have y00 := L.b0.fr 0; have y01 := L.b0.fr 1; have y02 := L.b0.fr 2))))
    clear c00 f00 c01 f01 c02 f02 c10 c11 c12
    go_wp2_with fail
    have LP := L.putQ (by omega) (by first | (simp; done) | (simp; omega)) (ng (m)) A8 B9 (zl (m)) c8 (len (q)) d9
    have k0 := LP.b0.c30
    have k1 := LP.b0.c31
    have k2 := LP.b0.c32
    unfold put3 at k0 k1 k2
    exact bodyPost_ret (v := .agg #[.bool (ng (m)), .slice A8 (zl (m)) c8, .slice B9 (len (q)) d9]) (by simp [results, Tryz.results27, go_sem, k0, k1, k2]) rfl ⟨_, rfl, isP_of (LP.getZ (by simp)) LP.hn, LP.below⟩
set_option maxHeartbeats 4000000 in
theorem dfrom_any (a : Int) (d : Nat) (vx : Value) (w : World) (hx : IsP w vx a d) (la : zl a ≤ 30000) (ld : len d ≤ 1000000) (hd : 0 < d) (hT : Tab w) :
    Calls Tryz.prog 44 #[vx] w (RetDB w (frM a d) (frE a d) (frB a d)) := by
  obtain ⟨A, c, B, g, rfl, hz, _, hn⟩ := hx.form
  have L0 := ((Lq.mk0 w).z hz).n hn
  have HB := Lib.hid (fun v W h => nbits_any d v W h (by omega))
  have HZ := Lib.hid (fun v W h (hW : Below w.heap.size w W) => nzeros_any d v W h (by omega) (hT.mono hW))
  have hpb := blen_pos hd
  have hbl := blen_le_len d
  obtain ⟨n, hn1⟩ : ∃ n, blen d = n + 1 := ⟨blen d - 1, by omega⟩
  have hzt := tz_le8 d hd
  obtain ⟨z, hz1⟩ : ∃ z, tz d = z := ⟨_, rfl⟩
  rw [hz1] at hzt
  unfold frM frE frB frP
  rw [hn1, hz1]
  rw [show n + 1 - 1 = n from rfl]
  clear hx hz hn
  rw [hz1] at HZ
  rw [hn1] at HB
  by_cases q1 : z = n
  · subst q1
    rw [decide_eq_true rfl, Bool.true_and]
    have b1 : ((((z + 1 : Nat)) : Int) != (z : Int) + 1) = false := by simp
    have b3 : (((z : Int) + 1) != (z : Int) + 1) = false := by simp
    have hw0 : IntKind.i64.wrap ((z : Int) + 1) = (z : Int) + 1 := by rw [IntKind.wrap_i64]; omega
    have hw2 : IntKind.i64.wrap (-(z : Int)) = -(z : Int) := by rw [IntKind.wrap_i64]; omega
    have hm := fun v W h (hW : Below w.heap.size w W) => dmake_any a (-(z : Int)) v W h (by omega) (hT.mono hW)
    have HF : ((decide (z ≤ 131072) && decide (mkR a (-(z : Int)) = 0)) = decide (mkR a (-(z : Int)) = 0)) ∧ (if decide (z ≤ 131072) = true then mkM a (-(z : Int)) else 0) = mkM a (-(z : Int)) ∧ (if decide (z ≤ 131072) = true then mkE a (-(z : Int)) else 0) = mkE a (-(z : Int)) := by
      by_cases q2 : z ≤ 131072
      · rw [decide_eq_true q2, Bool.true_and, if_pos rfl, if_pos rfl]; exact ⟨rfl, rfl, rfl⟩
      · have hr : mkR a (-(z : Int)) = 1 := if_pos (Or.inl (by omega))
        unfold mkM mkE
        rw [hr, decide_eq_false q2]
        simp
    rw [HF.1, HF.2.1, HF.2.2, ← err_ok]
    clear HF
    generalize mkM a (-(z : Int)) = M at *
    generalize mkE a (-(z : Int)) = E at *
    generalize mkR a (-(z : Int)) = R at *
    have HM := Lib.hid hm
    clear hm
    go_enter Tryz.func44, Tryz.ntmps44
    go_wp2_with fail
    have L := ((L0.varQ (w.heap.size) (by simp) (ng a) A B (zl a) c (len d) g).varD (w.heap.size + 1) (by simp) false none 0 0 0)
    have c00 := L.b0.c30
    have f00 := L.b0.fr 0
    have c01 := L.b0.c31
    have f01 := L.b0.fr 1
    have c02 := L.b0.c32
    have f02 := L.b0.fr 2
    have c10 := L.tl.b0.c30
    have f10 := L.tl.b0.fr 0
    have c11 := L.tl.b0.c31
    have f11 := L.tl.b0.fr 1
    have c12 := L.tl.b0.c32
    have f12 := L.tl.b0.fr 2
    (try go_wp2_with fail)
    refine (HZ.out _ _ (L.getN (by simp)) L.below).mono ?_
    rintro e9 w' ⟨rfl, rfl⟩
    go_wp2_with fail
    refine (HB.out _ _ (L.getN (by simp))).mono ?_
    rintro e9 w' ⟨rfl, rfl⟩
    (try go_wp2_with fail)
    refine (HM.out _ _ (L.getZ (by simp)) L.below).mono ?_
    rintro e w1 ⟨v2, rfl, id, be⟩
    clear c00 f00 c01 f01 c02 f02 c10 f10 c11 f11 c12 f12
    obtain ⟨A9, c9, rfl, _, in9⟩ := id.form
    replace L := (L.step be).n in9
    clear be in9 id
    have c00 := L.b0.c30
    have f00 := L.b0.fr 0
    have c01 := L.b0.c31
    have f01 := L.b0.fr 1
    have c02 := L.b0.c32
    have f02 := L.b0.fr 2
    have c10 := L.tl.b0.c30
    have c11 := L.tl.b0.c31
    have c12 := L.tl.b0.c32
    have hlt := L.b0.lt
    have LP0 := L.putD (by omega) (by first | (simp; done) | (simp; omega)) (ng M) A9 (zl M) c9 E
    have LP := LP0.varD _ rfl (ng M) A9 (zl M) c9 E
    have k0 := LP.tl.b0.c30
    have k1 := LP.tl.b0.c31
    have k2 := LP.tl.b0.c32
    unfold put3 at k0 k1 k2
    replace L := L.varD w1.heap.size rfl (ng M) A9 (zl M) c9 E
    have y0 := L.b0.c30
    have y1 := L.b0.c31
    have y2 := L.b0.c32
    go_wp2_with fail
    exact bodyPost_ret (v := .tuple #[.agg #[.bool (ng M), .slice A9 (zl M) c9, .int .i64 E], .bool (R == 0)]) (by simp [results, Tryz.results44, go_sem, k0, k1, k2]) rfl ⟨_, rfl, isD_n LP.hn, LP.below⟩
  · have b1 : ((((n + 1 : Nat)) : Int) != (z : Int) + 1) = true := by simp; omega
    have b3 : (((n : Int) + 1) != (z : Int) + 1) = true := by simp; omega
    have hw0 : IntKind.i64.wrap ((z : Int) + 1) = (z : Int) + 1 := by rw [IntKind.wrap_i64]; omega
    rw [decide_eq_false q1, Bool.false_and, Bool.false_and]
    simp only [Bool.false_eq_true, if_false]
    go_enter Tryz.func44, Tryz.ntmps44
    go_wp2_with fail
    have L := ((L0.varQ (w.heap.size) (by simp) (ng a) A B (zl a) c (len d) g).varD (w.heap.size + 1) (by simp) false none 0 0 0)
    have c00 := L.b0.c30
    have f00 := L.b0.fr 0
    have c01 := L.b0.c31
    have f01 := L.b0.fr 1
    have c02 := L.b0.c32
    have f02 := L.b0.fr 2
    have c10 := L.tl.b0.c30
    have f10 := L.tl.b0.fr 0
    have c11 := L.tl.b0.c31
    have f11 := L.tl.b0.fr 1
    have c12 := L.tl.b0.c32
    have f12 := L.tl.b0.fr 2
    (try go_wp2_with fail)
    refine (HZ.out _ _ (L.getN (by simp)) L.below).mono ?_
    rintro e9 w' ⟨rfl, rfl⟩
    go_wp2_with fail
    refine (HB.out _ _ (L.getN (by simp))).mono ?_
    rintro e9 w' ⟨rfl, rfl⟩
    (try go_wp2_with fail)
    clear c00 f00 c01 f01 c02 f02 c10 f10 c11 f11 c12 f12
    have c00 := L.b0.c30
    have f00 := L.b0.fr 0
    have c01 := L.b0.c31
    have f01 := L.b0.fr 1
    have c02 := L.b0.c32
    have f02 := L.b0.fr 2
    have c10 := L.tl.b0.c30
    have f10 := L.tl.b0.fr 0
    have c11 := L.tl.b0.c31
    have f11 := L.tl.b0.fr 1
    have c12 := L.tl.b0.c32
    have f12 := L.tl.b0.fr 2
    (try go_wp2_with fail)
    exact bodyPost_ret (v := .tuple #[.agg #[.bool false, .slice none 0 0, .int .i64 0], .bool false]) (by simp [results, Tryz.results44, go_sem, c00, c01, c02]) rfl ⟨_, rfl, isD_zero _, L.below⟩

end Go.Proofs.YtpgiolbnmlbjbaaGreatDoor
