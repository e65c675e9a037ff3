/- Base texts, joined: DyPA, DyPB, DyPC, DyPD. -/
import Derived.Test.YtiddbhhhmeopeaaGreatDoorBaseDE7
import Derived.Test.YtiddbhhhmeopeaaGreatDoorBaseEE7
import Derived.Test.YtiddbhhhmeopeaaGreatDoorBaseIE7
import Derived.Deep.RegionHeld3
import Derived.Deep.DrawnRows
/- The program's within, Valid, Sign, Neg, Top. -/
namespace Go.Proofs.YtiddbhhhmeopeaaGreatDoor
set_option maxHeartbeats 64000000
open Go.RowKit
set_option linter.unusedVariables false
set_option linter.unusedSimpArgs false
set_option maxRecDepth 100000
attribute [local go_sem ↓] Go.wp_at_zero Go.wp_at_succ
theorem isZ_sval {w : World} {A : Option Addr} {n c : Nat} {l : List Nat} {b : Bool} (h : Sl w A n c l) (hs : sval b l = true) : IsZ w (.agg #[.bool b, .slice A n c]) (sg b (val l)):=by
 have ht:=(Bool.and_eq_true _ _ ▸ hs : isTrim l = true ∧ (!b || decide (0 < l.length)) = true)
 have hd : dig (val l) = l:=by rw [dig_val h.small, ← trim_take, of_decide_eq_true ht.1, List.take_length]
 have hng : ng (sg b (val l)) = b:=by
  rw [sg_ng]
  cases b
  ·rfl
  ·have h2 : 0 < l.length:=by simpa using ht.2
   rw [Bool.true_and]
   refine decide_eq_true ?_
   rcases Nat.eq_zero_or_pos (val l) with h0 | h0
   ·rw [h0] at hd
    rw [← hd, length_dig, len_zero] at h2
    omega
   ·exact h0
 refine ⟨.slice A n c, by rw [hng], ?_⟩
 rw [sg_abs]
 exact ⟨A, n, c, rfl, by rw [hd]; exact h⟩

theorem within_any (n M : Int) (w : World) (h0 : 0 ≤ M) (h1 : M ≤ 1000000000) :
  Calls Tryz.prog 205 #[.int .i64 n, .int .i64 M] w (fun e w' => e = .returned (.bool (decide (-M ≤ n) && decide (n ≤ M))) ∧ w = w'):=by
 have hw : IntKind.i64.wrap (-M) = -M:=by rw [IntKind.wrap_i64]; omega
 by_cases q1 : -M ≤ n
 ·have b1 : decide (-M ≤ n) = true:=decide_eq_true q1
  rw [b1, Bool.true_and]
  go_enter Tryz.func205, Tryz.ntmps205
  go_wp2_with fail
  go_ret
  exact ⟨rfl, rfl⟩
 ·have b1 : decide (-M ≤ n) = false:=decide_eq_false q1
  rw [b1, Bool.false_and]
  go_enter Tryz.func205, Tryz.ntmps205
  go_wp2_with fail
  go_ret
  exact ⟨rfl, rfl⟩
theorem dvalid_any (b : Bool) (l : List Nat) (A : Option Addr) (n c : Nat) (e : Int) (w : World) (h : Sl w A n c l) (hl : n ≤ 1000000) :
  Calls Tryz.prog 182 #[.agg #[.bool b, .slice A n c, .int .i64 e]] w (RetB w (dval b l e)):=by
 have H1:=Hd9 (fun W (hW : Below w.heap.size w W) => zvalid_any b l A n c W (h.mono hW))
 obtain ⟨r, hr⟩:=nm9 (dval b l e)
 rw [hr]
 have hn2 : l.length = n:=h.len
 unfold dval at hr
 rw [hn2] at hr
 have HR:=Hd9 hr
 clear hr
 have lv : len (val l) ≤ 1000000:=Nat.le_trans (len_val_le h.small) (by rw [h.len]; exact hl)
 have HG:=Hd9 (fun W v h1 => nbits_any (val l) v W h1 (by omega))
 have hb0 : ∀ W v, IsN W v (val l) → Calls Tryz.prog 230 #[v, .int .i64 0] W (fun e w' => e = .returned (.bool (bitB (val l) 0)) ∧ W = w'):=fun W v h1 => nbit_any (val l) 0 0 v W h1 (by omega) (by omega)
 have HB:=Hd9 hb0
 clear hb0
 generalize bitB (val l) 0 = b4 at *
 obtain ⟨bl, hbl⟩:=nm9 (blen (val l))
 rw [hbl] at HR HG
 have HS:=Hd9 (fun W v h1 => zsign_any (sg b (val l)) v W h1 (by rw [zl_sg]; omega))
 have HK:=Hd9 (show cmpI (sg b (val l)) 0 = 0 ↔ val l = 0 from ⟨fun h => by have:=cmpI_zero h; have h2:=sg_abs b (val l); rw [this] at h2; exact h2.symm, fun h => by rw [h]; unfold sg; cases b <;> rfl⟩)
 generalize cmpI (sg b (val l)) 0 = k at *
 have HW:=Hd9 (fun W => within_any e 65536 W (by omega) (by omega))
 obtain ⟨rr, hrr⟩:=nm9 ((decide (-65536 ≤ e) && decide (e ≤ 65536)))
 rw [hrr] at HW
 have HRR:=Hd9 hrr
 clear hbl lv hrr
 go_enter Tryz.func182, Tryz.ntmps182
 go_wp2_with fail
 have L:=((Lq.mk0 w).varD (w.heap.size) (by simp) b A n c e)
 obtain ⟨c00,c01,c02⟩:=L.b0.a3
 obtain ⟨f00,f01,f02⟩:=L.b0.f3
 refine (H1.out _ L.below).mono ?_
 rintro e w1 ⟨rfl, be⟩
 clear c00 f00 c01 f01 c02 f02
 replace L:=L.step be
 clear be
 obtain ⟨c00,c01,c02⟩:=L.b0.a3
 obtain ⟨f00,f01,f02⟩:=L.b0.f3
 cases hs : sval b l
 ·obtain rfl : r = false:=by rw [← HR.out, hs]; rfl
  go_wp2_with fail
  go_ret
  exact ⟨rfl, L.below⟩
 ·have ht:=(Bool.and_eq_true _ _ ▸ hs : isTrim l = true ∧ _).1
  have I1:=isN_trim8 (h.mono L.below) ht
  have IZ:=isZ_sval (h.mono L.below) hs
  rcases Nat.eq_zero_or_pos n with hz | hz
  ·subst hz
   obtain rfl : decide (e = 0) = r:=by rw [← HR.out, hs]; rfl
   obtain rfl : k = 0:=HK.out.2 (by have h9:=List.length_eq_zero_iff.1 hn2; rw [h9]; rfl)
   go_wp2_with fail
   refine (HS.out _ _ IZ).mono ?_
   rintro e9 w2 ⟨rfl, be⟩
   replace L:=L.step be
   clear be I1 IZ
   clear c00 f00 c01 f01 c02 f02
   obtain ⟨c00,c01,c02⟩:=L.b0.a3
   obtain ⟨f00,f01,f02⟩:=L.b0.f3
   by_cases he : e = 0
   ·subst he
    go_wp2_with fail
    go_ret
    exact ⟨rfl, L.below⟩
   ·have hee : (e == 0) = false:=by simpa using he
    go_wp2_with fail
    go_ret
    exact ⟨by simp [he], L.below⟩
  ·have hkz : k ≠ 0:=fun h9 => by
    have h8:=HK.out.1 h9
    have h7 : l.length = len (val l):=by
     rw [← length_dig, dig_val h.small, ← trim_take, of_decide_eq_true ht, List.take_length]
    rw [h8, len_zero] at h7
    omega
   have hkb : (k == 0) = false:=by simpa using hkz
   rw [hs, if_neg (show ¬ n = 0 by omega), Bool.true_and] at HR
   go_wp2_with fail
   refine (HS.out _ _ IZ).mono ?_
   rintro e9 w2 ⟨rfl, be⟩
   replace L:=L.step be
   replace I1:=I1.mono be
   clear be IZ
   clear c00 c01 c02 f00 f01 f02
   obtain ⟨c00,c01,c02⟩:=L.b0.a3
   obtain ⟨f00,f01,f02⟩:=L.b0.f3
   go_wp2_with fail
   refine (HB.out _ _ I1).mono ?_
   rintro e9 w' ⟨rfl, rfl⟩
   cases b4
   ·obtain rfl : false = r:=by rw [← HR.out]; simp
    go_wp2_with fail
    go_ret
    exact ⟨rfl, L.below⟩
   ·go_wp2_with fail
    refine (HG.out _ _ I1).mono ?_
    rintro e9 w' ⟨rfl, rfl⟩
    by_cases q1 : bl ≤ 65536
    ·have p1 : decide ((bl : Int) ≤ 65536) = true:=decide_eq_true (by omega)
     obtain rfl : rr = r:=by rw [← HR.out, ← HRR.out]; simp [q1]
     clear HR HRR q1
     go_wp2_with fail
     refine (HW.out _).mono ?_
     rintro e9 w' ⟨rfl, rfl⟩
     go_wp2_with fail
     go_ret
     exact ⟨rfl, L.below⟩
    ·have p1 : decide ((bl : Int) ≤ 65536) = false:=decide_eq_false (by omega)
     obtain rfl : false = r:=by rw [← HR.out]; simp [q1]
     clear HR HRR q1
     go_wp2_with fail
     go_ret
     exact ⟨rfl, L.below⟩

theorem dvalid_d (m e : Int) (vx : Value) (w : World) (hx : IsD w vx m e) (lm : zl m ≤ 1000000) :
  Calls Tryz.prog 182 #[vx] w (RetB w (if m = 0 then decide (e = 0) else fits8 m e)):=by
 obtain ⟨s, rfl, hs⟩:=hx
 obtain ⟨A, n, c, rfl, hs⟩:=hs
 have hl:=hs.len
 rw [length_dig] at hl
 have:=dvalid_any (ng m) _ A n c e w hs (by unfold zl at lm; omega)
 rwa [dval_any] at this
theorem dsign_any (m e : Int) (vx : Value) (w : World) (hx : IsD w vx m e) (lm : zl m ≤ 100000000) :
  Calls Tryz.prog 115 #[vx] w (RetI w (cmpI m 0)):=by
 obtain ⟨A, c, rfl, hz, hn⟩:=hx.form
 have HS:=Hd9 (fun W h => zsign_any m (.agg #[.bool (ng m), .slice A (zl m) c]) W h (by omega))
 have L0:=(Lq.mk0 w).z hz
 clear hx hz hn
 generalize cmpI m 0 = k at *
 go_enter Tryz.func115, Tryz.ntmps115
 go_wp2_with fail
 have L:=(L0.varD (w.heap.size) (by simp) (ng m) A (zl m) c e)
 obtain ⟨c00,c01,c02⟩:=L.b0.a3
 obtain ⟨f00,f01,f02⟩:=L.b0.f3
 (try go_wp2_with fail)
 refine (HS.out _ (L.getZ (by simp))).mono ?_
 rintro e w1 ⟨rfl, be⟩
 clear c00 f00 c01 f01 c02 f02
 replace L:=L.step be
 clear be
 go_wp2_with fail
 go_ret
 exact ⟨rfl, L.below⟩
theorem dneg_any (m e : Int) (vx : Value) (w : World) (hx : IsD w vx m e) (lm : zl m ≤ 100000000) :
  Calls Tryz.prog 116 #[vx] w (RetD8 w (-m) e):=by
 obtain ⟨A, c, rfl, hz, hn⟩:=hx.form
 have h1:=fun v W h => zneg_any m v W h (by omega)
 have L0:=((Lq.mk0 w).z hz).n hn
 obtain ⟨na, hna⟩:=nm9 (-m)
 rw [hna] at h1 ⊢
 have H1:=Hd9 h1
 clear hx hz hn h1 hna
 go_enter Tryz.func116, Tryz.ntmps116
 go_wp2_with fail
 have L:=((L0.varD (w.heap.size) (by simp) (ng m) A (zl m) c e).varD (w.heap.size + 1) (by simp) false none 0 0 0)
 replace L:=L.drew
 obtain ⟨c00,c01,c02⟩:=L.b0.a3
 obtain ⟨f00,f01,f02⟩:=L.b0.f3
 obtain ⟨c10,c11,c12⟩:=L.tl.b0.a3
 go_region_held3 (fun w' => w'.cell? ⟨w.heap.size, 0, none⟩ = some (.bool (ng m)) ∧ w'.cell? ⟨w.heap.size, 1, none⟩ = some (.slice A (zl m) c) ∧ w'.cell? ⟨w.heap.size, 2, none⟩ = some (.int .i64 e)) (first | (with_reducible exact ⟨L.tl.b0.c30, L.tl.b0.c31, L.tl.b0.c32⟩) | exact ⟨L.tl.b0.c30, L.tl.b0.c31, L.tl.b0.c32⟩ | (have LP:=L.putD (by omega) (by first | (simp; done) | (simp; omega)) (ng na) A9 (zl na) c9 (e); exact ⟨LP.tl.b0.c30, LP.tl.b0.c31, LP.tl.b0.c32⟩)) (first | (go_at_call 169; (with_reducible refine (H1.out _ _ ?_ ).mono ?_); (· (refine L.getZ ?_; (repeat (first | (with_reducible exact mS) | apply mT)))); rintro e wh ⟨vh, rfl, iz, be⟩; replace L:=(L.step be).z iz; obtain ⟨A9, c9, rfl, _⟩:=iz.form; clear be iz; (try (obtain ⟨x00,x01,x02⟩:=L.b0.a3; obtain ⟨y00,y01,y02⟩:=L.b0.f3))))
 clear c00 f00 c01 f01 c02 f02 c10 c11 c12
 go_wp2_with fail
 have LP:=L.putD (by omega) (by first | (simp; done) | (simp; omega)) (ng na) A9 (zl na) c9 (e)
 obtain ⟨k0,k1,k2⟩:=LP.b0.a3
 unfold put3 at k0 k1 k2
 exact bodyPost_ret (v:=.agg #[.bool (ng na), .slice A9 (zl na) c9, .int .i64 (e)]) (by simp [results, Tryz.results116, go_sem, k0, k1, k2]) rfl ⟨_, rfl, isD_z LP.hz, LP.below⟩
theorem dtop_any (m e : Int) (vx : Value) (w : World) (hx : IsD w vx m e) (lm : zl m ≤ 100000000) (he : -1000000 ≤ e ∧ e ≤ 1000000) (h0 : m = 0 → e = 0) :
  Calls Tryz.prog 184 #[vx] w (RetI w (topZ m e)):=by
 obtain ⟨A, c, rfl, hz, hn⟩:=hx.form
 have H1:=Hd9 (fun v W h => nbits_any m.natAbs v W h (Nat.le_trans lm (by omega)))
 have L0:=((Lq.mk0 w).z hz).n hn
 clear hx hz hn
 obtain ⟨r, hr⟩:=nm9 (topZ m e)
 rw [hr]
 have hr2 : (blen m.natAbs : Int) + e = r:=by
  rw [← hr]
  unfold topZ
  by_cases hm : m = 0
  ·rw [if_pos hm, h0 hm, hm, show (0 : Int).natAbs = 0 from rfl, blen_zero]; rfl
  ·rw [if_neg hm]
 have hbl : blen m.natAbs ≤ 3200000000:=Nat.le_trans (blen_le_len m.natAbs) (by have : len m.natAbs ≤ 100000000:=lm; omega)
 obtain ⟨bl, hb⟩:=nm9 (blen m.natAbs)
 rw [hb] at H1 hr2 hbl
 have hw : IntKind.i64.wrap ((bl : Int) + e) = r:=by rw [← hr2]; rw [IntKind.wrap_i64]; omega
 clear hb hr hr2 h0
 go_enter Tryz.func184, Tryz.ntmps184
 go_wp2_with fail
 have L:=(L0.varD (w.heap.size) (by simp) (ng m) A (zl m) c e)
 replace L:=L.drew
 obtain ⟨c00,c01,c02⟩:=L.b0.a3
 obtain ⟨f00,f01,f02⟩:=L.b0.f3
 go_region_held3 (fun w' => w'.cell? ⟨w.heap.size, 0, none⟩ = some (.bool (ng m)) ∧ w'.cell? ⟨w.heap.size, 1, none⟩ = some (.slice A (zl m) c) ∧ w'.cell? ⟨w.heap.size, 2, none⟩ = some (.int .i64 e)) (first | (with_reducible exact ⟨L.b0.c30, L.b0.c31, L.b0.c32⟩) | exact ⟨L.b0.c30, L.b0.c31, L.b0.c32⟩) (first | (go_at_call 231; (with_reducible refine (H1.out _ _ ?_ ).mono ?_); (· (refine L.getN ?_; (repeat (first | (with_reducible exact mS) | apply mT)))); rintro e wh ⟨rfl, rfl⟩; skip))
 clear c00 f00 c01 f01 c02 f02
 go_wp2_with fail
 go_ret
 exact ⟨rfl, L.below⟩

end Go.Proofs.YtiddbhhhmeopeaaGreatDoor


/- The program's Make, Of. -/
namespace Go.Proofs.YtiddbhhhmeopeaaGreatDoor
set_option maxHeartbeats 64000000
open Go.RowKit
set_option linter.unusedVariables false
set_option linter.unusedSimpArgs false
set_option maxRecDepth 100000
attribute [local go_sem ↓] Go.wp_at_zero Go.wp_at_succ

theorem oddM_div (m : Int) : m / 2 ^ tz m.natAbs = oddM m:=by
 unfold oddM
 by_cases h : m = 0
 ·subst h; simp [sg]
 ·obtain ⟨k, hk⟩:=tz_form (x:=m.natAbs) (by omega)
  have:=sg_div m (2 ^ tz m.natAbs) ⟨2 * k + 1, hk⟩ (ng m) rfl
  rw [this]
  simp

theorem dmake_any (m e : Int) (vm : Value) (w : World) (hm : IsZ w vm m) (lm : zl m ≤ 30000) (hT : Tab w) :
    Calls Tryz.prog 152 #[vm, .int .i64 e] w (RetDE w (mkM m e) (mkE m e) (mkR m e)):=by
  obtain ⟨A, c, rfl, hn⟩:=hm.form
  have L0:=((Lq.mk0 w).n hn).z hm
  have HT0:=Hd9 (fun W (hW : Below w.heap.size w W) => hT.mono hW)
  obtain ⟨R, hR⟩:=nm9 (mkR m e)
  obtain ⟨M2, hM2⟩:=nm9 (mkM m e)
  obtain ⟨E2, hE2⟩:=nm9 (mkE m e)
  rw [hR, hM2, hE2]
  unfold mkM at hM2
  unfold mkE at hE2
  rw [hR] at hM2 hE2
  unfold mkR at hR
  have hw0:=fun W => within_any e 131072 W (by omega) (by omega)
  by_cases q0 : e < -131072 ∨ 131072 < e
  · obtain rfl : 1 = R:=by rw [← hR, if_pos q0]
    obtain rfl : 0 = M2:=by simpa using hM2
    obtain rfl : 0 = E2:=by simpa using hE2
    rw [show (decide (-131072 ≤ e) && decide (e ≤ 131072)) = false from by rw [Bool.and_eq_false_iff, decide_eq_false_iff_not, decide_eq_false_iff_not]; omega] at hw0
    have HW:=Hd9 hw0
    clear hR hM2 hE2 hm hn q0 hw0 HT0 hT
    go_enter Tryz.func152, Tryz.ntmps152
    go_wp2_with fail
    have L:=((L0.varZ (w.heap.size) (by simp) (ng m) A (zl m) c).varD (w.heap.size + 1) (by simp) false none 0 0 0)
    obtain ⟨c00,c01,c02⟩:=L.b0.a3
    obtain ⟨f00,f01,f02⟩:=L.b0.f3
    obtain ⟨c10,c11⟩:=L.tl.b0.a2
    obtain ⟨f10,f11⟩:=L.tl.b0.f2
    (try go_wp2_with fail)
    refine (HW.out _).mono ?_
    rintro e9 w' ⟨rfl, rfl⟩
    go_wp2_with fail
    first
    | exact bodyPost_ret (v:=.tuple #[.agg #[.bool false, .slice none 0 0, .int .i64 0], .int .i64 1]) (by simp [results, Tryz.results152, go_sem, c00, c01, c02]) rfl ⟨_, rfl, isD_zero _, L.below⟩
    | (have LP:=L.putD (by omega) (by first | (simp; done) | (simp; omega)) false none 0 0 0
       obtain ⟨k0,k1,k2⟩:=LP.b0.a3
       unfold put3 at k0 k1 k2
       exact bodyPost_ret (v:=.tuple #[.agg #[.bool false, .slice none 0 0, .int .i64 0], .int .i64 1]) (by simp [results, Tryz.results152, go_sem, k0, k1, k2]) rfl ⟨_, rfl, isD_zero _, LP.below⟩)
  · rw [if_neg q0] at hR
    rw [show (decide (-131072 ≤ e) && decide (e ≤ 131072)) = true from by rw [Bool.and_eq_true, decide_eq_true_iff, decide_eq_true_iff]; omega] at hw0
    have HW:=Hd9 hw0
    have hs0:=fun v W h => zsign_any m v W h (by omega)
    rcases Nat.eq_zero_or_pos (zl m) with h0 | h0
    · obtain rfl:=zl_eq_zero h0
      obtain rfl : 0 = R:=by simpa using hR
      obtain rfl : 0 = M2:=by simpa [oddM_zero] using hM2
      obtain rfl : 0 = E2:=by simpa using hE2
      rw [show cmpI 0 0 = 0 from rfl] at hs0
      have HS:=Hd9 hs0
      rw [h0]
      rw [h0] at L0
      clear hR hM2 hE2 hm hn HT0 hT hs0 hw0 q0
      go_enter Tryz.func152, Tryz.ntmps152
      go_wp2_with fail
      have L:=((L0.varZ (w.heap.size) (by simp) (ng 0) A 0 c).varD (w.heap.size + 1) (by simp) false none 0 0 0)
      obtain ⟨c00,c01,c02⟩:=L.b0.a3
      obtain ⟨f00,f01,f02⟩:=L.b0.f3
      obtain ⟨c10,c11⟩:=L.tl.b0.a2
      obtain ⟨f10,f11⟩:=L.tl.b0.f2
      (try go_wp2_with fail)
      refine (HW.out _).mono ?_
      rintro e9 w' ⟨rfl, rfl⟩
      go_wp2_with fail
      refine (HS.out _ _ (L.getZ (by simp))).mono ?_
      rintro e w1 ⟨rfl, be⟩
      clear c00 f00 c01 f01 c02 f02 c10 f10 c11 f11
      replace L:=L.step be
      clear be
      obtain ⟨c00,c01,c02⟩:=L.b0.a3
      obtain ⟨f00,f01,f02⟩:=L.b0.f3
      obtain ⟨c10,c11⟩:=L.tl.b0.a2
      obtain ⟨f10,f11⟩:=L.tl.b0.f2
      (try go_wp2_with fail)
      first
      | exact bodyPost_ret (v:=.tuple #[.agg #[.bool false, .slice none 0 0, .int .i64 0], .int .i64 0]) (by simp [results, Tryz.results152, go_sem, c00, c01, c02]) rfl ⟨_, rfl, isD_zero _, L.below⟩
      | (have LP:=L.putD (by omega) (by first | (simp; done) | (simp; omega)) false none 0 0 0
         obtain ⟨k0,k1,k2⟩:=LP.b0.a3
         unfold put3 at k0 k1 k2
         exact bodyPost_ret (v:=.tuple #[.agg #[.bool false, .slice none 0 0, .int .i64 0], .int .i64 0]) (by simp [results, Tryz.results152, go_sem, k0, k1, k2]) rfl ⟨_, rfl, isD_zero _, LP.below⟩)
    · have hm0 : m ≠ 0:=fun h => by rw [h, zl_zero] at h0; omega
      have hk : (cmpI m 0 == 0) = false:=by
        have : cmpI m 0 ≠ 0:=fun h => hm0 (cmpI_zero h)
        simpa using this
      generalize cmpI m 0 = k at *
      have HS:=Hd9 hs0
      rw [if_neg hm0] at hR hE2
      have hlm : len m.natAbs ≤ 30000:=lm
      have hM0 : oddM m ≠ 0:=fun h => by have:=oddM_pos hm0; rw [h] at this; exact absurd this (by decide)
      have hzl:=zl_odd m
      have HZ:=Hd9 (fun v W h h2 => nzeros_any m.natAbs v W h (by omega) h2)
      have hzz : tz m.natAbs ≤ 960000:=by
        have:=tz_le8 m.natAbs (by omega)
        omega
      have hse : oddE m e = e + (tz m.natAbs : Int):=rfl
      have HV:=Hd9 (fun v W h => dvalid_d (oddM m) (oddE m e) v W h (by omega))
      rw [if_neg hM0] at HV
      have hso:=oddM_div m
      obtain ⟨z, hz⟩:=nm9 (tz m.natAbs)
      rw [hz] at HZ hzz hso hse
      have h3:=fun v W h h2 => zshr_any m v W h (by omega) z (by omega) h2
      rw [hso] at h3
      have H3:=Hd9 h3
      obtain ⟨ok, hok⟩:=nm9 (fits8 (oddM m) (oddE m e))
      rw [hok] at hR HV
      obtain ⟨M, hM⟩:=nm9 (oddM m)
      obtain ⟨E, hE⟩:=nm9 (oddE m e)
      rw [hM] at hM2 HV H3
      rw [hE] at hE2 HV hse
      have hw : IntKind.i64.wrap (e + (z : Int)) = E:=by rw [hse, IntKind.wrap_i64]; omega
      have HF : (ok = false → R = 3 ∧ M2 = 0 ∧ E2 = 0) ∧ (ok = true → R = 0 ∧ M2 = M ∧ E2 = E):=by
        refine ⟨fun h => ?_, fun h => ?_⟩ <;> subst h <;> simp at hR <;> subst hR <;> simp at hM2 hE2 <;> exact ⟨rfl, hM2.symm, hE2.symm⟩
      clear hR hM2 hE2 hso hse hM0 hzl hok hM hE hz hlm hm0 h0 h3 hs0 hw0 hm hn hT q0
      go_enter Tryz.func152, Tryz.ntmps152
      go_wp2_with fail
      have L:=((L0.varZ (w.heap.size) (by simp) (ng m) A (zl m) c).varD (w.heap.size + 1) (by simp) false none 0 0 0)
      obtain ⟨c00,c01,c02⟩:=L.b0.a3
      obtain ⟨f00,f01,f02⟩:=L.b0.f3
      obtain ⟨c10,c11⟩:=L.tl.b0.a2
      obtain ⟨f10,f11⟩:=L.tl.b0.f2
      (try go_wp2_with fail)
      refine (HW.out _).mono ?_
      rintro e9 w' ⟨rfl, rfl⟩
      go_wp2_with fail
      refine (HS.out _ _ (L.getZ (by simp))).mono ?_
      rintro e w1 ⟨rfl, be⟩
      clear c00 f00 c01 f01 c02 f02 c10 f10 c11 f11
      replace L:=L.step be
      clear be
      obtain ⟨c00,c01,c02⟩:=L.b0.a3
      obtain ⟨f00,f01,f02⟩:=L.b0.f3
      obtain ⟨c10,c11⟩:=L.tl.b0.a2
      obtain ⟨f10,f11⟩:=L.tl.b0.f2
      (try go_wp2_with fail)
      refine (HZ.out _ _ (L.getN (by simp)) (HT0.out _ L.below)).mono ?_
      rintro e9 w' ⟨rfl, rfl⟩
      go_wp2_with fail
      refine (H3.out _ _ (L.getZ (by simp)) (HT0.out _ L.below)).mono ?_
      rintro e w2 ⟨v1, rfl, iz, be⟩
      clear c00 f00 c01 f01 c02 f02 c10 f10 c11 f11
      replace L:=(L.step be).z iz
      obtain ⟨A3, c5, rfl, in3⟩:=iz.form
      replace L:=L.n in3
      clear be iz in3
      have hlt:=L.b0.lt
      obtain ⟨c00,c01,c02⟩:=L.b0.a3
      obtain ⟨f00,f01,f02⟩:=L.b0.f3
      obtain ⟨c10,c11⟩:=L.tl.b0.a2
      obtain ⟨f10,f11⟩:=L.tl.b0.f2
      replace L:=L.varD w2.heap.size rfl (ng M) A3 (zl M) c5 E
      clear c00 f00 c01 f01 c02 f02 c10 f10 c11 f11
      obtain ⟨c00,c01,c02⟩:=L.b0.a3
      obtain ⟨f00,f01,f02⟩:=L.b0.f3
      obtain ⟨c10,c11,c12⟩:=L.tl.b0.a3
      obtain ⟨f10,f11,f12⟩:=L.tl.b0.f3
      obtain ⟨c20,c21⟩:=L.tl.tl.b0.a2
      obtain ⟨f20,f21⟩:=L.tl.tl.b0.f2
      (try go_wp2_with fail)
      refine (HV.out _ _ (isD_n L.hn)).mono ?_
      rintro e w3 ⟨rfl, be⟩
      clear c00 f00 c01 f01 c02 f02 c10 f10 c11 f11 c12 f12 c20 f20 c21 f21
      replace L:=L.step be
      clear be
      obtain ⟨c00,c01,c02⟩:=L.b0.a3
      obtain ⟨f00,f01,f02⟩:=L.b0.f3
      obtain ⟨c10,c11,c12⟩:=L.tl.b0.a3
      obtain ⟨f10,f11,f12⟩:=L.tl.b0.f3
      obtain ⟨c20,c21⟩:=L.tl.tl.b0.a2
      cases ok
      · obtain ⟨rfl, rfl, rfl⟩:=HF.1 rfl
        go_wp2_with fail
        have LP:=L.swap.putD (by omega) (by first | (simp; done) | (simp; omega)) false none (0) 0 (0)
        obtain ⟨k0,k1,k2⟩:=LP.b0.a3
        unfold put3 at k0 k1 k2
        exact bodyPost_ret (v:=.tuple #[.agg #[.bool false, .slice none (0) 0, .int .i64 (0)], .int .i64 3]) (by simp [results, Tryz.results152, go_sem, k0, k1, k2]) rfl ⟨_, rfl, isD_zero _, LP.below⟩
      · obtain ⟨rfl, rfl, rfl⟩:=HF.2 rfl
        go_wp2_with fail
        have LP:=L.swap.putD (by omega) (by first | (simp; done) | (simp; omega)) (ng M2) A3 ((zl M2)) c5 (E2)
        obtain ⟨k0,k1,k2⟩:=LP.b0.a3
        unfold put3 at k0 k1 k2
        exact bodyPost_ret (v:=.tuple #[.agg #[.bool (ng M2), .slice A3 ((zl M2)) c5, .int .i64 (E2)], .int .i64 0]) (by simp [results, Tryz.results152, go_sem, k0, k1, k2]) rfl ⟨_, rfl, isD_n LP.hn, LP.below⟩
theorem dof_any (n : Int) (w : World) (h1 : -9223372036854775808 ≤ n) (h2 : n ≤ 9223372036854775807) (hT : Tab w) :
  Calls Tryz.prog 111 #[.int .i64 n] w (RetD8 w (mkM n 0) (mkE n 0)):=by
 have HO:=Hd9 (fun W => zof_any n W h1 h2)
 have HT0:=Hd9 (fun W (hW : Below w.heap.size w W) => hT.mono hW)
 have hl : zl n ≤ 2:=len_le2 (x:=n.natAbs) (by omega)
 have hm:=fun v W h h2 => dmake_any n 0 v W h (by omega) h2
 generalize mkM n 0 = M at *
 generalize mkE n 0 = E at *
 generalize mkR n 0 = R at *
 have HM:=Hd9 hm
 clear hm h1 h2 hl hT
 go_enter Tryz.func111, Tryz.ntmps111
 go_wp2_with fail
 have L:=((Lq.mk0 w).varD (w.heap.size) (by simp) false none 0 0 0)
 obtain ⟨c00,c01,c02⟩:=L.b0.a3
 obtain ⟨f00,f01,f02⟩:=L.b0.f3
 (try go_wp2_with fail)
 refine (HO.out _).mono ?_
 rintro e w1 ⟨v1, rfl, iz, be⟩
 clear c00 f00 c01 f01 c02 f02
 replace L:=(L.step be).z iz
 clear be iz
 obtain ⟨c00,c01,c02⟩:=L.b0.a3
 obtain ⟨f00,f01,f02⟩:=L.b0.f3
 (try go_wp2_with fail)
 refine (HM.out _ _ (L.getZ (by simp)) (HT0.out _ L.below)).mono ?_
 rintro e w2 ⟨v2, rfl, id, be⟩
 clear c00 f00 c01 f01 c02 f02
 obtain ⟨A9, c9, rfl, _, in9⟩:=id.form
 replace L:=(L.step be).n in9
 clear be in9 id
 obtain ⟨c00,c01,c02⟩:=L.b0.a3
 obtain ⟨f00,f01,f02⟩:=L.b0.f3
 have hlt:=L.b0.lt
 have LP0:=L.putD (by omega) (by first | (simp; done) | (simp; omega)) (ng M) A9 (zl M) c9 E
 have LP:=LP0.varD _ rfl (ng M) A9 (zl M) c9 E
 obtain ⟨k0,k1,k2⟩:=LP.tl.b0.a3
 unfold put3 at k0 k1 k2
 replace L:=L.varD w2.heap.size rfl (ng M) A9 (zl M) c9 E
 obtain ⟨y0,y1,y2⟩:=L.b0.a3
 go_wp2_with fail
 exact bodyPost_ret (v:=.agg #[.bool (ng M), .slice A9 (zl M) c9, .int .i64 E]) (by simp [results, Tryz.results111, go_sem, k0, k1, k2]) rfl ⟨_, rfl, isD_n LP.hn, LP.below⟩

end Go.Proofs.YtiddbhhhmeopeaaGreatDoor


/- The program's align, Cmp, Add, Sub, Mul. -/
namespace Go.Proofs.YtiddbhhhmeopeaaGreatDoor
set_option maxHeartbeats 64000000
open Go.RowKit
set_option linter.unusedVariables false
set_option linter.unusedSimpArgs false
set_option maxRecDepth 100000
attribute [local go_sem ↓] Go.wp_at_zero Go.wp_at_succ

theorem zl_shl32 (x : Int) (k : Nat) : zl (x * 2 ^ k) ≤ zl x + (k / 32 + 1):=by
 have h : (x * 2 ^ k).natAbs = x.natAbs * 2 ^ k:=by rw [Int.natAbs_mul, Int.natAbs_pow]; rfl
 unfold zl
 rw [h]
 refine Nat.le_trans (len_mul _ _) (Nat.add_le_add_left (len_le ?_) _)
 rw [W32_pow]
 exact Nat.pow_lt_pow_right (by omega) (by omega)
def RetAl (w : World) (x y f : Int) (en : Ending) (w' : World) : Prop:=∃ v u, en = .returned (.tuple #[v, u, .int .i64 f]) ∧ IsZ w' v x ∧ IsZ w' u y ∧ Below w.heap.size w w'

theorem align_any (m e n k : Int) (vx vy : Value) (w : World) (hx : IsD w vx m e) (hy : IsD w vy n k) (lm : zl m ≤ 10000) (ln : zl n ≤ 10000) (he : -100000 ≤ e ∧ e ≤ 100000) (hk : -100000 ≤ k ∧ k ≤ 100000) :
  Calls Tryz.prog 121 #[vx, vy] w (RetAl w (m * 2 ^ (e - min e k).toNat) (n * 2 ^ (k - min e k).toNat) (min e k)):=by
 obtain ⟨A, c, rfl, hz, hn⟩:=hx.form
 obtain ⟨B, d, rfl, hz2, hn2⟩:=hy.form
 have L0:=((Lq.mk0 w).z hz2).z hz
 obtain ⟨F, hF⟩:=nm9 (min e k)
 obtain ⟨p, hp⟩ : ∃ p : Nat, (p : Int) = e - F:=⟨(e - F).toNat, by omega⟩
 obtain ⟨q, hq⟩ : ∃ q : Nat, (q : Int) = k - F:=⟨(k - F).toNat, by omega⟩
 have tp : (e - F).toNat = p:=by omega
 have tq : (k - F).toNat = q:=by omega
 have hw1 : IntKind.i64.wrap (e - F) = (p : Int):=by rw [hp, IntKind.wrap_i64]; omega
 have hw2 : IntKind.i64.wrap (k - F) = (q : Int):=by rw [hq, IntKind.wrap_i64]; omega
 have H1:=Hd9 (fun v W h => zshl_any m v W h (by omega) p (by omega))
 have H2:=Hd9 (fun v W h => zshl_any n v W h (by omega) q (by omega))
 rw [hF, tp, tq]
 clear hx hy hz hn hz2 hn2 lm ln he hk tp tq hp hq
 generalize m * 2 ^ p = a1 at *
 generalize n * 2 ^ q = a2 at *
 go_enter Tryz.func121, Tryz.ntmps121
 go_wp2_with fail
 have L:=((((L0.varD (w.heap.size) (by simp) (ng m) A (zl m) c e).varD (w.heap.size + 1) (by simp) (ng n) B (zl n) d k).varZ (w.heap.size + 2) (by simp) false none 0 0).varZ (w.heap.size + 3) (by simp) false none 0 0)
 obtain ⟨c00,c01⟩:=L.b0.a2
 obtain ⟨f00,f01⟩:=L.b0.f2
 obtain ⟨c10,c11⟩:=L.tl.b0.a2
 obtain ⟨f10,f11⟩:=L.tl.b0.f2
 obtain ⟨c20,c21,c22⟩:=L.tl.tl.b0.a3
 obtain ⟨c30,c31,c32⟩:=L.tl.tl.tl.b0.a3
 (try go_wp2_with fail)
 clear c00 f00 c01 f01 c10 f10 c11 f11 c20 c21 c22 c30 c31 c32
 replace L:=L.drew
 obtain ⟨c00,c01⟩:=L.b0.a2
 obtain ⟨f00,f01⟩:=L.b0.f2
 obtain ⟨c10,c11⟩:=L.tl.b0.a2
 obtain ⟨f10,f11⟩:=L.tl.b0.f2
 obtain ⟨c20,c21,c22⟩:=L.tl.tl.b0.a3
 obtain ⟨c30,c31,c32⟩:=L.tl.tl.tl.b0.a3
 go_region_held3 (fun w' => w'.cell? ⟨w.heap.size, 0, none⟩ = some (.bool (ng m)) ∧ w'.cell? ⟨w.heap.size, 1, none⟩ = some (.slice A (zl m) c) ∧ w'.cell? ⟨w.heap.size, 2, none⟩ = some (.int .i64 e) ∧ w'.cell? ⟨w.heap.size + 1, 0, none⟩ = some (.bool (ng n)) ∧ w'.cell? ⟨w.heap.size + 1, 1, none⟩ = some (.slice B (zl n) d) ∧ w'.cell? ⟨w.heap.size + 1, 2, none⟩ = some (.int .i64 k)) (first | (with_reducible exact ⟨L.tl.tl.tl.b0.c30, L.tl.tl.tl.b0.c31, L.tl.tl.tl.b0.c32, L.tl.tl.b0.c30, L.tl.tl.b0.c31, L.tl.tl.b0.c32⟩) | exact ⟨L.tl.tl.tl.b0.c30, L.tl.tl.tl.b0.c31, L.tl.tl.tl.b0.c32, L.tl.tl.b0.c30, L.tl.tl.b0.c31, L.tl.tl.b0.c32⟩ | (have LP:=L.swap.putZ (by omega) (by first | (simp; done) | (simp; omega)) (ng a1) A8 (zl a1) c8; exact ⟨LP.tl.tl.tl.b0.c30, LP.tl.tl.tl.b0.c31, LP.tl.tl.tl.b0.c32, LP.tl.tl.b0.c30, LP.tl.tl.b0.c31, LP.tl.tl.b0.c32⟩) | (have LP:=L.swap.putZ (by omega) (by first | (simp; done) | (simp; omega)) (ng a1) A8 (zl a1) c8; have LR:=LP.swap.putZ (by omega) (by first | (simp; done) | (simp; omega)) (ng a2) A9 (zl a2) c9; exact ⟨LR.tl.tl.tl.b0.c30, LR.tl.tl.tl.b0.c31, LR.tl.tl.tl.b0.c32, LR.tl.tl.b0.c30, LR.tl.tl.b0.c31, LR.tl.tl.b0.c32⟩)) (first | (go_at_call 192; (with_reducible refine (H1.out _ _ ?_).mono ?_); (· (refine L.getZ ?_; (repeat (first | (with_reducible exact mS) | apply mT)))); rintro e9 wh ⟨vh, rfl, iz, be⟩; replace L:=(L.step be).z iz; obtain ⟨A8, c8, rfl, _⟩:=iz.form; clear be iz; (try (obtain ⟨x00,x01⟩:=L.b0.a2; obtain ⟨y00,y01⟩:=L.b0.f2; obtain ⟨x10,x11⟩:=L.tl.b0.a2; obtain ⟨y10,y11⟩:=L.tl.b0.f2))) | (go_at_call 192; (with_reducible refine (H2.out _ _ ?_).mono ?_); (· (refine L.getZ ?_; (repeat (first | (with_reducible exact mS) | apply mT)))); rintro e9 wh ⟨vh, rfl, iz, be⟩; replace L:=(L.step be).z iz; obtain ⟨A9, c9, rfl, _⟩:=iz.form; clear be iz; (try (obtain ⟨x00,x01⟩:=L.b0.a2; obtain ⟨y00,y01⟩:=L.b0.f2; obtain ⟨x10,x11⟩:=L.tl.b0.a2; obtain ⟨y10,y11⟩:=L.tl.b0.f2))))
 clear c00 f00 c01 f01 c10 f10 c11 f11 c20 c21 c22 c30 c31 c32
 go_wp2_with fail
 have LP:=L.swap.putZ (by omega) (by first | (simp; done) | (simp; omega)) (ng a1) A8 (zl a1) c8
 have LR:=LP.swap.putZ (by omega) (by first | (simp; done) | (simp; omega)) (ng a2) A9 (zl a2) c9
 obtain ⟨k0,k1⟩:=LR.b0.a2
 obtain ⟨j0,j1⟩:=LR.tl.b0.a2
 unfold put2 at k0 k1 j0 j1
 exact bodyPost_ret (v:=.tuple #[.agg #[.bool (ng a1), .slice A8 (zl a1) c8], .agg #[.bool (ng a2), .slice A9 (zl a2) c9], .int .i64 F]) (by simp [results, Tryz.results121, go_sem, k0, k1, j0, j1]) rfl ⟨_, _, rfl, LR.getZ (by simp), LR.getZ (by simp), LR.below⟩
theorem dcmp_any (m e n k : Int) (vx vy : Value) (w : World) (hx : IsD w vx m e) (hy : IsD w vy n k) (lm : zl m ≤ 10000) (ln : zl n ≤ 10000) (he : -100000 ≤ e ∧ e ≤ 100000) (hk : -100000 ≤ k ∧ k ≤ 100000) :
  Calls Tryz.prog 64 #[vx, vy] w (RetI w (cmpI (m * 2 ^ (e - min e k).toNat) (n * 2 ^ (k - min e k).toNat))):=by
 obtain ⟨A, c, rfl, hz, hn⟩:=hx.form
 obtain ⟨B, d, rfl, hz2, hn2⟩:=hy.form
 have L0:=((Lq.mk0 w).n hn2).n hn
 have HA:=Hd9 (fun v u W h1 h2 => align_any m e n k v u W h1 h2 (by omega) (by omega) he hk)
 obtain ⟨F, hF⟩:=nm9 (min e k)
 obtain ⟨p, hp⟩ : ∃ p : Nat, (p : Int) = e - F:=⟨(e - F).toNat, by omega⟩
 obtain ⟨q, hq⟩ : ∃ q : Nat, (q : Int) = k - F:=⟨(k - F).toNat, by omega⟩
 have tp : (e - F).toNat = p:=by omega
 have tq : (k - F).toNat = q:=by omega
 rw [hF, tp, tq] at HA
 have l1:=zl_shl32 m p
 have l2:=zl_shl32 n q
 have l3:=zl_add (m * 2 ^ p) (n * 2 ^ q)
 have H3:=Hd9 (fun v u W h1 h2 => zcmp_any (m * 2 ^ p) (n * 2 ^ q) v u W h1 h2 (by omega) (by omega))
 clear hx hy hz hn hz2 hn2
 rw [hF, tp, tq]
 clear l1 l2 l3 lm ln he hk tp tq hp hq
 generalize cmpI (m * 2 ^ p) (n * 2 ^ q) = r at *
 generalize m * 2 ^ p = a1 at *
 generalize n * 2 ^ q = a2 at *
 go_enter Tryz.func64, Tryz.ntmps64
 go_wp2_with fail
 have L:=((L0.varD (w.heap.size) (by simp) (ng m) A (zl m) c e).varD (w.heap.size + 1) (by simp) (ng n) B (zl n) d k)
 obtain ⟨c00,c01,c02⟩:=L.b0.a3
 obtain ⟨f00,f01,f02⟩:=L.b0.f3
 obtain ⟨c10,c11,c12⟩:=L.tl.b0.a3
 obtain ⟨f10,f11,f12⟩:=L.tl.b0.f3
 (try go_wp2_with fail)
 refine (HA.out _ _ _ (isD_n (L.getN (by simp))) (isD_n (L.getN (by simp)))).mono ?_
 rintro e w1 ⟨v1, v2, rfl, i1, i2, be⟩
 clear c00 f00 c01 f01 c02 f02 c10 f10 c11 f11 c12 f12
 replace L:=((L.step be).z i2).z i1
 obtain ⟨A8, c8, rfl, _⟩:=i1.form
 obtain ⟨A9, c9, rfl, _⟩:=i2.form
 clear be i1 i2
 have hlt:=L.b0.lt
 replace L:=(L.varZ w1.heap.size rfl (ng a1) A8 (zl a1) c8).varZ (w1.heap.size + 1) (by simp) (ng a2) A9 (zl a2) c9
 obtain ⟨c00,c01⟩:=L.b0.a2
 obtain ⟨f00,f01⟩:=L.b0.f2
 obtain ⟨c10,c11⟩:=L.tl.b0.a2
 obtain ⟨f10,f11⟩:=L.tl.b0.f2
 obtain ⟨c20,c21,c22⟩:=L.tl.tl.b0.a3
 obtain ⟨c30,c31,c32⟩:=L.tl.tl.tl.b0.a3
 (try go_wp2_with fail)
 refine (H3.out _ _ _ (L.getZ (by simp)) (L.getZ (by simp))).mono ?_
 rintro e w2 ⟨rfl, be⟩
 clear c00 f00 c01 f01 c10 f10 c11 f11 c20 c21 c22 c30 c31 c32
 replace L:=L.step be
 clear be
 go_wp2_with fail
 go_ret
 exact ⟨rfl, L.below⟩
theorem dadd_any (m e n k : Int) (vx vy : Value) (w : World) (hx : IsD w vx m e) (hy : IsD w vy n k) (lm : zl m ≤ 10000) (ln : zl n ≤ 10000) (he : -100000 ≤ e ∧ e ≤ 100000) (hk : -100000 ≤ k ∧ k ≤ 100000) (hT : Tab w) :
  Calls Tryz.prog 89 #[vx, vy] w (RetDE w (mkM (addS m e n k) (min e k)) (mkE (addS m e n k) (min e k)) (mkR (addS m e n k) (min e k))):=by
 obtain ⟨A, c, rfl, hz, hn⟩:=hx.form
 obtain ⟨B, d, rfl, hz2, hn2⟩:=hy.form
 have L0:=((Lq.mk0 w).n hn2).n hn
 have HA:=Hd9 (fun v u W h1 h2 => align_any m e n k v u W h1 h2 (by omega) (by omega) he hk)
 obtain ⟨F, hF⟩:=nm9 (min e k)
 obtain ⟨p, hp⟩ : ∃ p : Nat, (p : Int) = e - F:=⟨(e - F).toNat, by omega⟩
 obtain ⟨q, hq⟩ : ∃ q : Nat, (q : Int) = k - F:=⟨(k - F).toNat, by omega⟩
 have tp : (e - F).toNat = p:=by omega
 have tq : (k - F).toNat = q:=by omega
 rw [hF, tp, tq] at HA
 have l1:=zl_shl32 m p
 have l2:=zl_shl32 n q
 have l3:=zl_add (m * 2 ^ p) (n * 2 ^ q)
 have H3:=Hd9 (fun v u W h1 h2 => zadd_any (m * 2 ^ p) (n * 2 ^ q) v u W h1 h2 (by omega) (by omega))
 have HM0:=fun v W h (hW : Below w.heap.size w W) => dmake_any (m * 2 ^ p + n * 2 ^ q) F v W h (by omega) (hT.mono hW)
 clear hx hy hz hn hz2 hn2
 unfold addS
 rw [hF, tp, tq]
 obtain ⟨R, hR⟩:=nm9 (mkR (m * 2 ^ p + n * 2 ^ q) F)
 obtain ⟨M, hM⟩:=nm9 (mkM (m * 2 ^ p + n * 2 ^ q) F)
 obtain ⟨E, hE⟩:=nm9 (mkE (m * 2 ^ p + n * 2 ^ q) F)
 rw [hR, hM, hE] at HM0 ⊢
 have HM:=Hd9 HM0
 clear HM0 hR hM hE
 clear l1 l2 l3 lm ln he hk tp tq hp hq
 generalize m * 2 ^ p + n * 2 ^ q = p0 at *
 generalize m * 2 ^ p = a1 at *
 generalize n * 2 ^ q = a2 at *
 go_enter Tryz.func89, Tryz.ntmps89
 go_wp2_with fail
 have L:=(((L0.varD (w.heap.size) (by simp) (ng m) A (zl m) c e).varD (w.heap.size + 1) (by simp) (ng n) B (zl n) d k).varD (w.heap.size + 2) (by simp) false none 0 0 0)
 obtain ⟨c00,c01,c02⟩:=L.b0.a3
 obtain ⟨f00,f01,f02⟩:=L.b0.f3
 obtain ⟨c10,c11,c12⟩:=L.tl.b0.a3
 obtain ⟨f10,f11,f12⟩:=L.tl.b0.f3
 obtain ⟨c20,c21,c22⟩:=L.tl.tl.b0.a3
 obtain ⟨f20,f21,f22⟩:=L.tl.tl.b0.f3
 (try go_wp2_with fail)
 refine (HA.out _ _ _ (isD_n (L.getN (by simp))) (isD_n (L.getN (by simp)))).mono ?_
 rintro e w1 ⟨v1, v2, rfl, i1, i2, be⟩
 clear c00 f00 c01 f01 c02 f02 c10 f10 c11 f11 c12 f12 c20 f20 c21 f21 c22 f22
 replace L:=((L.step be).z i2).z i1
 obtain ⟨A8, c8, rfl, _⟩:=i1.form
 obtain ⟨A9, c9, rfl, _⟩:=i2.form
 clear be i1 i2
 have hlt:=L.b0.lt
 replace L:=(L.varZ w1.heap.size rfl (ng a1) A8 (zl a1) c8).varZ (w1.heap.size + 1) (by simp) (ng a2) A9 (zl a2) c9
 obtain ⟨c00,c01⟩:=L.b0.a2
 obtain ⟨f00,f01⟩:=L.b0.f2
 obtain ⟨c10,c11⟩:=L.tl.b0.a2
 obtain ⟨f10,f11⟩:=L.tl.b0.f2
 obtain ⟨c20,c21,c22⟩:=L.tl.tl.b0.a3
 obtain ⟨f20,f21,f22⟩:=L.tl.tl.b0.f3
 obtain ⟨c30,c31,c32⟩:=L.tl.tl.tl.b0.a3
 obtain ⟨c40,c41,c42⟩:=L.tl.tl.tl.tl.b0.a3
 (try go_wp2_with fail)
 refine (H3.out _ _ _ (L.getZ (by simp)) (L.getZ (by simp))).mono ?_
 rintro e w2 ⟨vs, rfl, iz, be⟩
 clear c00 f00 c01 f01 c10 f10 c11 f11 c20 f20 c21 f21 c22 f22 c30 c31 c32 c40 c41 c42
 replace L:=(L.step be).z iz
 obtain ⟨A7, c7, rfl, _⟩:=iz.form
 clear be iz
 obtain ⟨c00,c01⟩:=L.b0.a2
 obtain ⟨f00,f01⟩:=L.b0.f2
 obtain ⟨c10,c11⟩:=L.tl.b0.a2
 obtain ⟨f10,f11⟩:=L.tl.b0.f2
 obtain ⟨c20,c21,c22⟩:=L.tl.tl.b0.a3
 obtain ⟨f20,f21,f22⟩:=L.tl.tl.b0.f3
 obtain ⟨c30,c31,c32⟩:=L.tl.tl.tl.b0.a3
 obtain ⟨c40,c41,c42⟩:=L.tl.tl.tl.tl.b0.a3
 (try go_wp2_with fail)
 refine (HM.out _ _ (L.getZ (by simp)) L.below).mono ?_
 rintro e w3 ⟨vd, rfl, id, be⟩
 clear c00 f00 c01 f01 c10 f10 c11 f11 c20 f20 c21 f21 c22 f22 c30 c31 c32 c40 c41 c42
 obtain ⟨A6, c6, rfl, _, in9⟩:=id.form
 replace L:=(L.step be).n in9
 clear be in9 id
 obtain ⟨c00,c01⟩:=L.b0.a2
 obtain ⟨f00,f01⟩:=L.b0.f2
 obtain ⟨c10,c11⟩:=L.tl.b0.a2
 obtain ⟨f10,f11⟩:=L.tl.b0.f2
 obtain ⟨c20,c21,c22⟩:=L.tl.tl.b0.a3
 obtain ⟨f20,f21,f22⟩:=L.tl.tl.b0.f3
 obtain ⟨c30,c31,c32⟩:=L.tl.tl.tl.b0.a3
 obtain ⟨c40,c41,c42⟩:=L.tl.tl.tl.tl.b0.a3
 (try go_wp2_with fail)
 replace L:=L.pull2
 have LP:=L.putD (by omega) (by first | (simp; done) | (simp; omega)) (ng M) A6 (zl M) c6 (E)
 obtain ⟨k0,k1,k2⟩:=LP.b0.a3
 unfold put3 at k0 k1 k2
 exact bodyPost_ret (v:=.tuple #[.agg #[.bool (ng M), .slice A6 (zl M) c6, .int .i64 (E)], .int .i64 R]) (by simp [results, Tryz.results89, go_sem, k0, k1, k2]) rfl ⟨_, rfl, isD_n LP.hn, LP.below⟩
theorem dsub_any (m e n k : Int) (vx vy : Value) (w : World) (hx : IsD w vx m e) (hy : IsD w vy n k) (lm : zl m ≤ 10000) (ln : zl n ≤ 10000) (he : -100000 ≤ e ∧ e ≤ 100000) (hk : -100000 ≤ k ∧ k ≤ 100000) (hT : Tab w) :
  Calls Tryz.prog 123 #[vx, vy] w (RetDE w (mkM (addS m e (-n) k) (min e k)) (mkE (addS m e (-n) k) (min e k)) (mkR (addS m e (-n) k) (min e k))):=by
 obtain ⟨A, c, rfl, hz, hn⟩:=hx.form
 obtain ⟨B, d, rfl, hz2, hn2⟩:=hy.form
 have L0:=((((Lq.mk0 w).z hz2).z hz).n hn2).n hn
 have l1:=zl_neg n
 have h1:=fun v W h => dneg_any n k v W h (by omega)
 have HM0:=fun v u W h1 h2 (hW : Below w.heap.size w W) => dadd_any m e (-n) k v u W h1 h2 (by omega) (by omega) he hk (hT.mono hW)
 clear hx hy hz hn hz2 hn2
 obtain ⟨R, hR⟩:=nm9 (mkR (addS m e (-n) k) (min e k))
 obtain ⟨M, hM⟩:=nm9 (mkM (addS m e (-n) k) (min e k))
 obtain ⟨E, hE⟩:=nm9 (mkE (addS m e (-n) k) (min e k))
 rw [hR, hM, hE] at HM0 ⊢
 have HM:=Hd9 HM0
 clear HM0 hR hM hE
 obtain ⟨nn, hnn⟩:=nm9 (-n)
 rw [hnn] at h1 HM
 have H1:=Hd9 h1
 clear h1 hnn l1 lm ln he hk
 go_enter Tryz.func123, Tryz.ntmps123
 go_wp2_with fail
 have L:=(((L0.varD (w.heap.size) (by simp) (ng m) A (zl m) c e).varD (w.heap.size + 1) (by simp) (ng n) B (zl n) d k).varD (w.heap.size + 2) (by simp) false none 0 0 0)
 replace L:=L.drew
 obtain ⟨c00,c01,c02⟩:=L.b0.a3
 obtain ⟨f00,f01,f02⟩:=L.b0.f3
 obtain ⟨c10,c11,c12⟩:=L.tl.b0.a3
 obtain ⟨c20,c21,c22⟩:=L.tl.tl.b0.a3
 go_region_held3 (fun w' => w'.cell? ⟨w.heap.size, 0, none⟩ = some (.bool (ng m)) ∧ w'.cell? ⟨w.heap.size, 1, none⟩ = some (.slice A (zl m) c) ∧ w'.cell? ⟨w.heap.size, 2, none⟩ = some (.int .i64 e) ∧ w'.cell? ⟨w.heap.size + 1, 0, none⟩ = some (.bool (ng n)) ∧ w'.cell? ⟨w.heap.size + 1, 1, none⟩ = some (.slice B (zl n) d) ∧ w'.cell? ⟨w.heap.size + 1, 2, none⟩ = some (.int .i64 k)) (first | (with_reducible exact ⟨L.tl.tl.b0.c30, L.tl.tl.b0.c31, L.tl.tl.b0.c32, L.tl.b0.c30, L.tl.b0.c31, L.tl.b0.c32⟩) | exact ⟨L.tl.tl.b0.c30, L.tl.tl.b0.c31, L.tl.tl.b0.c32, L.tl.b0.c30, L.tl.b0.c31, L.tl.b0.c32⟩ | (have LP:=L.putD (by omega) (by first | (simp; done) | (simp; omega)) (ng M) A9 (zl M) c9 (E); exact ⟨LP.tl.tl.b0.c30, LP.tl.tl.b0.c31, LP.tl.tl.b0.c32, LP.tl.b0.c30, LP.tl.b0.c31, LP.tl.b0.c32⟩)) (first | (go_at_call 116; (with_reducible refine (H1.out _ _ ?_ ).mono ?_); (· (refine isD_n (L.getN ?_); (repeat (first | (with_reducible exact mS) | apply mT)))); rintro e wh ⟨vh, rfl, id, be⟩; obtain ⟨A9, c9, rfl, _, in9⟩:=id.form; replace L:=(L.step be).n in9; clear be id in9; (try (obtain ⟨x00,x01,x02⟩:=L.b0.a3; obtain ⟨y00,y01,y02⟩:=L.b0.f3))) | (go_at_call 89; (with_reducible refine (HM.out _ _ _ ?_ ?_ ?_ ).mono ?_); (· (refine isD_n (L.getN ?_); (repeat (first | (with_reducible exact mS) | apply mT)))); (· (refine isD_n (L.getN ?_); (repeat (first | (with_reducible exact mS) | apply mT)))); (· exact L.below); rintro e wh ⟨vh, rfl, id, be⟩; obtain ⟨A9, c9, rfl, _, in9⟩:=id.form; replace L:=(L.step be).n in9; clear be id in9; (try (obtain ⟨x00,x01,x02⟩:=L.b0.a3; obtain ⟨y00,y01,y02⟩:=L.b0.f3))))
 clear c00 f00 c01 f01 c02 f02 c10 c11 c12 c20 c21 c22
 go_wp2_with fail
 have LP:=L.putD (by omega) (by first | (simp; done) | (simp; omega)) (ng M) A9 (zl M) c9 (E)
 obtain ⟨k0,k1,k2⟩:=LP.b0.a3
 unfold put3 at k0 k1 k2
 exact bodyPost_ret (v:=.tuple #[.agg #[.bool (ng M), .slice A9 (zl M) c9, .int .i64 (E)], .int .i64 R]) (by simp [results, Tryz.results123, go_sem, k0, k1, k2]) rfl ⟨_, rfl, isD_n LP.hn, LP.below⟩
theorem dmul_any (m e n k : Int) (vx vy : Value) (w : World) (hx : IsD w vx m e) (hy : IsD w vy n k) (lm : zl m ≤ 10000) (ln : zl n ≤ 10000) (he : -100000 ≤ e ∧ e ≤ 100000) (hk : -100000 ≤ k ∧ k ≤ 100000) (hT : Tab w) :
  Calls Tryz.prog 88 #[vx, vy] w (RetDE w (mkM (m * n) (e + k)) (mkE (m * n) (e + k)) (mkR (m * n) (e + k))):=by
 obtain ⟨A, c, rfl, hz, hn⟩:=hx.form
 obtain ⟨B, d, rfl, hz2, hn2⟩:=hy.form
 have L0:=((Lq.mk0 w).z hz2).z hz
 have l1:=zl_mul m n
 obtain ⟨ek, hek⟩:=nm9 (e + k)
 have hw : IntKind.i64.wrap (e + k) = ek:=by rw [← hek, IntKind.wrap_i64]; omega
 have H1:=Hd9 (fun v u W h1 h2 => zmul_any m n v u W h1 h2 (by omega) (by omega))
 have HM0:=fun v W h (hW : Below w.heap.size w W) => dmake_any (m * n) ek v W h (by omega) (hT.mono hW)
 clear hx hy hz hn hz2 hn2
 rw [hek]
 obtain ⟨R, hR⟩:=nm9 (mkR (m * n) ek)
 obtain ⟨M, hM⟩:=nm9 (mkM (m * n) ek)
 obtain ⟨E, hE⟩:=nm9 (mkE (m * n) ek)
 rw [hR, hM, hE] at HM0 ⊢
 have HM:=Hd9 HM0
 clear HM0 hR hM hE
 clear l1 lm ln he hk hek
 generalize m * n = p at *
 go_enter Tryz.func88, Tryz.ntmps88
 go_wp2_with fail
 have L:=(((L0.varD (w.heap.size) (by simp) (ng m) A (zl m) c e).varD (w.heap.size + 1) (by simp) (ng n) B (zl n) d k).varD (w.heap.size + 2) (by simp) false none 0 0 0)
 replace L:=L.drew
 obtain ⟨c00,c01,c02⟩:=L.b0.a3
 obtain ⟨f00,f01,f02⟩:=L.b0.f3
 obtain ⟨c10,c11,c12⟩:=L.tl.b0.a3
 obtain ⟨c20,c21,c22⟩:=L.tl.tl.b0.a3
 go_region_held3 (fun w' => w'.cell? ⟨w.heap.size, 0, none⟩ = some (.bool (ng m)) ∧ w'.cell? ⟨w.heap.size, 1, none⟩ = some (.slice A (zl m) c) ∧ w'.cell? ⟨w.heap.size, 2, none⟩ = some (.int .i64 e) ∧ w'.cell? ⟨w.heap.size + 1, 0, none⟩ = some (.bool (ng n)) ∧ w'.cell? ⟨w.heap.size + 1, 1, none⟩ = some (.slice B (zl n) d) ∧ w'.cell? ⟨w.heap.size + 1, 2, none⟩ = some (.int .i64 k)) (first | (with_reducible exact ⟨L.tl.tl.b0.c30, L.tl.tl.b0.c31, L.tl.tl.b0.c32, L.tl.b0.c30, L.tl.b0.c31, L.tl.b0.c32⟩) | exact ⟨L.tl.tl.b0.c30, L.tl.tl.b0.c31, L.tl.tl.b0.c32, L.tl.b0.c30, L.tl.b0.c31, L.tl.b0.c32⟩ | (have LP:=L.putD (by omega) (by first | (simp; done) | (simp; omega)) (ng M) A9 (zl M) c9 (E); exact ⟨LP.tl.tl.b0.c30, LP.tl.tl.b0.c31, LP.tl.tl.b0.c32, LP.tl.b0.c30, LP.tl.b0.c31, LP.tl.b0.c32⟩)) (first | (go_at_call 153; (with_reducible refine (H1.out _ _ _ ?_ ?_ ).mono ?_); (· (refine L.getZ ?_; (repeat (first | (with_reducible exact mS) | apply mT)))); (· (refine L.getZ ?_; (repeat (first | (with_reducible exact mS) | apply mT)))); rintro e wh ⟨vh, rfl, iz, be⟩; replace L:=(L.step be).z iz; obtain ⟨A8, c8, rfl, _⟩:=iz.form; clear be iz; (try (obtain ⟨x00,x01,x02⟩:=L.b0.a3; obtain ⟨y00,y01,y02⟩:=L.b0.f3))) | (go_at_call 152; (with_reducible refine (HM.out _ _ ?_ ?_ ).mono ?_); (· (refine L.getZ ?_; (repeat (first | (with_reducible exact mS) | apply mT)))); (· exact L.below); rintro e wh ⟨vh, rfl, id, be⟩; obtain ⟨A9, c9, rfl, _, in9⟩:=id.form; replace L:=(L.step be).n in9; clear be id in9; (try (obtain ⟨x00,x01,x02⟩:=L.b0.a3; obtain ⟨y00,y01,y02⟩:=L.b0.f3))))
 clear c00 f00 c01 f01 c02 f02 c10 c11 c12 c20 c21 c22
 go_wp2_with fail
 have LP:=L.putD (by omega) (by first | (simp; done) | (simp; omega)) (ng M) A9 (zl M) c9 (E)
 obtain ⟨k0,k1,k2⟩:=LP.b0.a3
 unfold put3 at k0 k1 k2
 exact bodyPost_ret (v:=.tuple #[.agg #[.bool (ng M), .slice A9 (zl M) c9, .int .i64 (E)], .int .i64 R]) (by simp [results, Tryz.results88, go_sem, k0, k1, k2]) rfl ⟨_, rfl, isD_n LP.hn, LP.below⟩

end Go.Proofs.YtiddbhhhmeopeaaGreatDoor


/- The program's Rat, From. -/
namespace Go.Proofs.YtiddbhhhmeopeaaGreatDoor
set_option maxHeartbeats 64000000
open Go.RowKit
set_option linter.unusedVariables false
set_option linter.unusedSimpArgs false
set_option maxRecDepth 100000
attribute [local go_sem ↓] Go.wp_at_zero Go.wp_at_succ

theorem drat_any (m e : Int) (vx : Value) (w : World) (hx : IsD w vx m e) (lm : zl m ≤ 100000) (he : -200000 ≤ e ∧ e ≤ 200000) :
  Calls Tryz.prog 214 #[vx] w (RetP w (m * 2 ^ e.toNat) (2 ^ (-e).toNat)):=by
 obtain ⟨A, c, rfl, hz, hn⟩:=hx.form
 have L0:=((Lq.mk0 w).z hz).n hn
 clear hx
 by_cases h0 : 0 ≤ e
 ·have b0 : decide (0 ≤ e) = true:=decide_eq_true h0
  obtain ⟨p, hp⟩ : ∃ p : Nat, e = (p : Int):=⟨e.toNat, by omega⟩
  subst hp
  rw [show ((p : Int)).toNat = p from Int.toNat_natCast p, show (-(p : Int)).toNat = 0 from by omega, Nat.pow_zero]
  have H1:=Hd9 (fun v W h => zshl_any m v W h (by omega) p (by omega))
  have ho : ∀ W, Calls Tryz.prog 216 #[.int .u64 1] W (RetN W 1):=fun W => of_any 1 W (by omega)
  have HO:=Hd9 ho
  clear ho
  clear hz hn he lm
  generalize m * 2 ^ p = a at *
  go_enter Tryz.func214, Tryz.ntmps214
  go_wp2_with fail
  have L:=((L0.varD (w.heap.size) (by simp) (ng m) A (zl m) c (p : Int)).varQ (w.heap.size + 1) (by simp) false none none 0 0 0 0)
  obtain ⟨c00,c01,c02⟩:=L.b0.a3
  obtain ⟨f00,f01,f02⟩:=L.b0.f3
  obtain ⟨c10,c11,c12⟩:=L.tl.b0.a3
  obtain ⟨f10,f11,f12⟩:=L.tl.b0.f3
  (try go_wp2_with fail)
  refine (H1.out _ _ (L.getZ (by simp))).mono ?_
  rintro e w1 ⟨v1, rfl, iz, be⟩
  clear c00 f00 c01 f01 c02 f02 c10 f10 c11 f11 c12 f12
  replace L:=(L.step be).z iz
  obtain ⟨A9, c9, rfl, _⟩:=iz.form
  clear be iz
  obtain ⟨c00,c01,c02⟩:=L.b0.a3
  obtain ⟨f00,f01,f02⟩:=L.b0.f3
  obtain ⟨c10,c11,c12⟩:=L.tl.b0.a3
  obtain ⟨f10,f11,f12⟩:=L.tl.b0.f3
  (try go_wp2_with fail)
  refine (HO.out _).mono ?_
  rintro e w2 ⟨v2, rfl, o⟩
  clear c00 f00 c01 f01 c02 f02 c10 f10 c11 f11 c12 f12
  replace L:=(L.step o.below).n o.isN
  obtain ⟨B9, d9, rfl⟩:=o.isN.form
  clear o
  obtain ⟨c00,c01,c02⟩:=L.b0.a3
  obtain ⟨f00,f01,f02⟩:=L.b0.f3
  obtain ⟨c10,c11,c12⟩:=L.tl.b0.a3
  obtain ⟨f10,f11,f12⟩:=L.tl.b0.f3
  (try go_wp2_with fail)
  have LP:=L.putQ (by omega) (by first | (simp; done) | (simp; omega)) (ng (a)) A9 B9 (zl (a)) c9 (len (1)) d9
  obtain ⟨k0,k1,k2⟩:=LP.b0.a3
  unfold put3 at k0 k1 k2
  exact bodyPost_ret (v:=.agg #[.bool (ng (a)), .slice A9 (zl (a)) c9, .slice B9 (len (1)) d9]) (by simp [results, Tryz.results214, go_sem, k0, k1, k2]) rfl ⟨_, rfl, isP_of (LP.getZ (by simp)) LP.hn, LP.below⟩
 ·have b0 : decide (0 ≤ e) = false:=decide_eq_false h0
  obtain ⟨p, hp⟩ : ∃ p : Nat, (p : Int) = -e:=⟨(-e).toNat, by omega⟩
  rw [show e.toNat = 0 from by omega, show (-e).toNat = p from by omega, Int.pow_zero, Int.mul_one]
  have hw : IntKind.i64.wrap (-e) = (p : Int):=by rw [hp, IntKind.wrap_i64]; omega
  have h2:=fun v W h => shlK_any 1 p v W h (Nat.le_trans (len_le1 (by omega)) (by omega)) (by omega)
  rw [Nat.one_mul] at h2
  have H2:=Hd9 h2
  have ho : ∀ W, Calls Tryz.prog 216 #[.int .u64 1] W (RetN W 1):=fun W => of_any 1 W (by omega)
  have HO:=Hd9 ho
  clear ho
  have h3:=fun v W h => znatN_any (ng m) m.natAbs v W h (Nat.le_trans lm (by omega))
  rw [sg_self] at h3
  have H3:=Hd9 h3
  clear hz hn he lm h0 hp h2 h3
  generalize 2 ^ p = q at *
  go_enter Tryz.func214, Tryz.ntmps214
  go_wp2_with fail
  have L:=((L0.varD (w.heap.size) (by simp) (ng m) A (zl m) c e).varQ (w.heap.size + 1) (by simp) false none none 0 0 0 0)
  obtain ⟨c00,c01,c02⟩:=L.b0.a3
  obtain ⟨f00,f01,f02⟩:=L.b0.f3
  obtain ⟨c10,c11,c12⟩:=L.tl.b0.a3
  obtain ⟨f10,f11,f12⟩:=L.tl.b0.f3
  (try go_wp2_with fail)
  clear c00 f00 c01 f01 c02 f02 c10 f10 c11 f11 c12 f12
  replace L:=L.drew
  obtain ⟨c00,c01,c02⟩:=L.b0.a3
  obtain ⟨f00,f01,f02⟩:=L.b0.f3
  obtain ⟨c10,c11,c12⟩:=L.tl.b0.a3
  go_region_held3 (fun w' => w'.cell? ⟨w.heap.size, 0, none⟩ = some (.bool (ng m)) ∧ w'.cell? ⟨w.heap.size, 1, none⟩ = some (.slice A (zl m) c) ∧ w'.cell? ⟨w.heap.size, 2, none⟩ = some (.int .i64 e)) (first | (with_reducible exact ⟨L.tl.b0.c30, L.tl.b0.c31, L.tl.b0.c32⟩) | exact ⟨L.tl.b0.c30, L.tl.b0.c31, L.tl.b0.c32⟩ | (have LP:=L.putQ (by omega) (by first | (simp; done) | (simp; omega)) (ng m) A8 B9 (zl m) c8 (len q) d9; exact ⟨LP.tl.b0.c30, LP.tl.b0.c31, LP.tl.b0.c32⟩)) (first | (go_at_call 221; (with_reducible refine (H3.out _ _ ?_ ).mono ?_); (· (refine L.getN ?_; (repeat (first | (with_reducible exact mS) | apply mT)))); rintro e wh ⟨vh, rfl, iz, be⟩; replace L:=(L.step be).z iz; obtain ⟨A8, c8, rfl, _⟩:=iz.form; clear be iz; (try (obtain ⟨x00,x01,x02⟩:=L.b0.a3; obtain ⟨y00,y01,y02⟩:=L.b0.f3))) | (go_at_call 216; (with_reducible refine (HO.out _ ).mono ?_); rintro e wh ⟨vh, rfl, o9⟩; replace L:=(L.step o9.below).n o9.isN; obtain ⟨B8, d8, rfl⟩:=o9.isN.form; clear o9; (try (obtain ⟨x00,x01,x02⟩:=L.b0.a3; obtain ⟨y00,y01,y02⟩:=L.b0.f3))) | (go_at_call 232; (with_reducible refine (H2.out _ _ ?_ ).mono ?_); (· (refine L.getN ?_; (repeat (first | (with_reducible exact mS) | apply mT)))); rintro e wh ⟨vh, rfl, o9⟩; replace L:=(L.step o9.below).n o9.isN; obtain ⟨B9, d9, rfl⟩:=o9.isN.form; clear o9; (try (obtain ⟨x00,x01,x02⟩:=L.b0.a3; obtain ⟨y00,y01,y02⟩:=L.b0.f3))))
  clear c00 f00 c01 f01 c02 f02 c10 c11 c12
  go_wp2_with fail
  have LP:=L.putQ (by omega) (by first | (simp; done) | (simp; omega)) (ng (m)) A8 B9 (zl (m)) c8 (len (q)) d9
  obtain ⟨k0,k1,k2⟩:=LP.b0.a3
  unfold put3 at k0 k1 k2
  exact bodyPost_ret (v:=.agg #[.bool (ng (m)), .slice A8 (zl (m)) c8, .slice B9 (len (q)) d9]) (by simp [results, Tryz.results214, go_sem, k0, k1, k2]) rfl ⟨_, rfl, isP_of (LP.getZ (by simp)) LP.hn, LP.below⟩
end Go.Proofs.YtiddbhhhmeopeaaGreatDoor

