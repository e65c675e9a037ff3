/- Base texts, joined: RefDyA, RefDyB, RefDyC, RefDyD, RefDyE, MillDy, MillTwoD. -/
import Derived.Test.YtiddbhhhmeopeaaGreatDoorBaseDE7
import Derived.Test.YtiddbhhhmeopeaaGreatDoorBaseJE7
import Derived.Deep.RegionHeld3
import Derived.Deep.DrawnRows
import Derived.Test.YtiddbhhhmeopeaaGreatDoorBaseRE7
import Derived.Test.YtiddbhhhmeopeaaGreatDoorBaseIE7
import Derived.Deep.Cut
import Derived.Deep.CutRange
/- The reference's Neg, Top, one, Cmp. -/
namespace Go.Proofs.YtiddbhhhmeopeaaGreatDoor
set_option maxHeartbeats 64000000
open Go.RowKit
set_option linter.unusedVariables false
set_option linter.unusedSimpArgs false
set_option maxRecDepth 100000
attribute [local go_sem ↓] Go.wp_at_zero Go.wp_at_succ

theorem rneg8_any (m e : Int) (vx : Value) (w : World) (hx : IsD w vx m e) (lm : zl m ≤ 100000000) :
  Calls Tryz.prog 35 #[vx] w (RetD8 w (-m) e):=by
 obtain ⟨A, c, rfl, hz, hn⟩:=hx.form
 have h1:=fun v W h => rzneg_any m v W h (by omega)
 have L0:=((Lq.mk0 w).z hz).n hn
 obtain ⟨na, hna⟩:=nm9 (-m)
 rw [hna] at h1 ⊢
 have H1:=Hd9 h1
 clear hx hz hn h1 hna
 go_enter Tryz.func35, Tryz.ntmps35
 go_wp2_with fail
 have L:=((L0.varD (w.heap.size) (by simp) (ng m) A (zl m) c e).varD (w.heap.size + 1) (by simp) false none 0 0 0)
 replace L:=L.drew
 obtain ⟨c00,c01,c02⟩:=L.b0.a3
 obtain ⟨f00,f01,f02⟩:=L.b0.f3
 obtain ⟨c10,c11,c12⟩:=L.tl.b0.a3
 go_region_held3 (fun w' => w'.cell? ⟨w.heap.size, 0, none⟩ = some (.bool (ng m)) ∧ w'.cell? ⟨w.heap.size, 1, none⟩ = some (.slice A (zl m) c) ∧ w'.cell? ⟨w.heap.size, 2, none⟩ = some (.int .i64 e)) (first | (with_reducible exact ⟨L.tl.b0.c30, L.tl.b0.c31, L.tl.b0.c32⟩) | exact ⟨L.tl.b0.c30, L.tl.b0.c31, L.tl.b0.c32⟩ | (have LP:=L.putD (by omega) (by first | (simp; done) | (simp; omega)) (ng na) A9 (zl na) c9 (e); exact ⟨LP.tl.b0.c30, LP.tl.b0.c31, LP.tl.b0.c32⟩)) (first | (go_at_call 82; (with_reducible refine (H1.out _ _ ?_ ).mono ?_); (· (refine L.getZ ?_; (repeat (first | (with_reducible exact mS) | apply mT)))); rintro e wh ⟨vh, rfl, iz, be⟩; replace L:=(L.step be).z iz; obtain ⟨A9, c9, rfl, _⟩:=iz.form; clear be iz; (try (obtain ⟨x00,x01,x02⟩:=L.b0.a3; obtain ⟨y00,y01,y02⟩:=L.b0.f3))))
 clear c00 f00 c01 f01 c02 f02 c10 c11 c12
 go_wp2_with fail
 have LP:=L.putD (by omega) (by first | (simp; done) | (simp; omega)) (ng na) A9 (zl na) c9 (e)
 obtain ⟨k0,k1,k2⟩:=LP.b0.a3
 unfold put3 at k0 k1 k2
 exact bodyPost_ret (v:=.agg #[.bool (ng na), .slice A9 (zl na) c9, .int .i64 (e)]) (by simp [results, Tryz.results35, go_sem, k0, k1, k2]) rfl ⟨_, rfl, isD_z LP.hz, LP.below⟩
def topZ (m e : Int) : Int:=if m = 0 then 0 else (blen m.natAbs : Int) + e
theorem rtop_any (m e : Int) (vx : Value) (w : World) (hx : IsD w vx m e) (lm : zl m ≤ 100000000) (he : -1000000 ≤ e ∧ e ≤ 1000000) :
  Calls Tryz.prog 47 #[vx] w (RetI w (topZ m e)):=by
 obtain ⟨A, c, rfl, hz, hn⟩:=hx.form
 have H1:=Hd9 (fun v W h => rbits_any m.natAbs v W h (Nat.le_trans lm (by omega)))
 have L0:=((Lq.mk0 w).z hz).n hn
 clear hx hz hn
 obtain ⟨r, hr⟩:=nm9 (topZ m e)
 rw [hr]
 unfold topZ at hr
 rcases Nat.eq_zero_or_pos (zl m) with h0 | h0
 ·obtain rfl : m = 0:=by rcases Int.lt_trichotomy m 0 with h | h | h; exact absurd (zl_pos (z:=m) (by omega)) (by omega); exact h; exact absurd (zl_pos (z:=m) (by omega)) (by omega)
  obtain rfl : 0 = r:=by simpa using hr
  rw [h0] at L0 ⊢
  go_enter Tryz.func47, Tryz.ntmps47
  go_wp2_with fail
  have L:=(L0.varD (w.heap.size) (by simp) (ng 0) A 0 c e)
  obtain ⟨c00,c01,c02⟩:=L.b0.a3
  obtain ⟨f00,f01,f02⟩:=L.b0.f3
  go_ret
  exact ⟨rfl, L.below⟩
 ·have hm : m ≠ 0:=fun h => by rw [h, zl_zero] at h0; omega
  rw [if_neg hm] at hr
  have hp : (0 : Int) < (zl m : Int):=by omega
  have hbl : blen m.natAbs ≤ 3200000000:=Nat.le_trans (blen_le_len m.natAbs) (by have : len m.natAbs ≤ 100000000:=lm; omega)
  obtain ⟨bl, hb⟩:=nm9 (blen m.natAbs)
  rw [hb] at H1 hr hbl
  have hw : IntKind.i64.wrap ((bl : Int) + e) = r:=by rw [hr]; rw [IntKind.wrap_i64]; omega
  clear hb hr
  go_enter Tryz.func47, Tryz.ntmps47
  go_wp2_with fail
  have L:=(L0.varD (w.heap.size) (by simp) (ng m) A (zl m) c e)
  replace L:=L.drew
  obtain ⟨c00,c01,c02⟩:=L.b0.a3
  obtain ⟨f00,f01,f02⟩:=L.b0.f3
  go_region_held3 (fun w' => w'.cell? ⟨w.heap.size, 0, none⟩ = some (.bool (ng m)) ∧ w'.cell? ⟨w.heap.size, 1, none⟩ = some (.slice A (zl m) c) ∧ w'.cell? ⟨w.heap.size, 2, none⟩ = some (.int .i64 e)) (first | (with_reducible exact ⟨L.b0.c30, L.b0.c31, L.b0.c32⟩) | exact ⟨L.b0.c30, L.b0.c31, L.b0.c32⟩) (first | (go_at_call 103; (with_reducible refine (H1.out _ _ ?_ ).mono ?_); (· (refine L.getN ?_; (repeat (first | (with_reducible exact mS) | apply mT)))); rintro e wh ⟨rfl, rfl⟩; skip))
  clear c00 f00 c01 f01 c02 f02
  go_wp2_with fail
  go_ret
  exact ⟨rfl, L.below⟩

end Go.Proofs.YtiddbhhhmeopeaaGreatDoor


/- The reference's Valid. -/
namespace Go.Proofs.YtiddbhhhmeopeaaGreatDoor
set_option maxHeartbeats 64000000
open Go.RowKit
set_option linter.unusedVariables false
set_option linter.unusedSimpArgs false
set_option maxRecDepth 100000
attribute [local go_sem ↓] Go.wp_at_zero Go.wp_at_succ
def dval (b : Bool) (l : List Nat) (e : Int) : Bool:=sval b l && (if l.length = 0 then decide (e = 0) else decide (blen (val l) ≤ 65536) && (decide (-65536 ≤ e) && (decide (e ≤ 65536) && bitB (val l) 0)))
theorem isN_trim8 {w : World} {A : Option Addr} {n c : Nat} {l : List Nat} (h : Sl w A n c l) (ht : isTrim l = true) : IsN w (.slice A n c) (val l):=by
 have h1 : dig (val l) = l:=by
  rw [dig_val h.small, ← trim_take, of_decide_eq_true ht, List.take_length]
 exact ⟨A, n, c, rfl, by rw [h1]; exact h⟩
theorem dval_any (m e : Int) : dval (ng m) (dig m.natAbs) e = if m = 0 then decide (e = 0) else fits8 m e:=by
 unfold dval fits8
 rw [sval_z, val_dig, length_dig, Bool.true_and]
 by_cases h : m = 0
 ·subst h; simp [len_zero]
 ·rw [if_neg h, if_neg (by have:=zl_pos h; unfold zl at this; omega)]

theorem rvalid8_any (b : Bool) (l : List Nat) (A : Option Addr) (n c : Nat) (e : Int) (w : World) (h : Sl w A n c l) (hl : n ≤ 1000000) :
  Calls Tryz.prog 77 #[.agg #[.bool b, .slice A n c, .int .i64 e]] w (RetB w (dval b l e)):=by
 have H1:=Hd9 (fun W (hW : Below w.heap.size w W) => rzvalid_any b l A n c W (h.mono hW))
 obtain ⟨r, hr⟩:=nm9 (dval b l e)
 rw [hr]
 have hn2 : l.length = n:=h.len
 unfold dval at hr
 rw [hn2] at hr
 have HR:=Hd9 hr
 clear hr
 have lv : len (val l) ≤ 1000000:=Nat.le_trans (len_val_le h.small) (by rw [h.len]; exact hl)
 have HG:=Hd9 (fun W v h1 => rbits_any (val l) v W h1 (by omega))
 have HB:=Hd9 (fun W v h1 => rbit_any (val l) 0 v W h1 (by omega))
 rw [show bitI (val l) 0 = bitB (val l) 0 from bitI_nat _ 0] at HB
 generalize bitB (val l) 0 = b4 at *
 obtain ⟨bl, hbl⟩:=nm9 (blen (val l))
 rw [hbl] at HR HG
 clear hbl lv
 go_enter Tryz.func77, Tryz.ntmps77
 go_wp2_with fail
 have L:=((Lq.mk0 w).varD (w.heap.size) (by simp) b A n c e)
 obtain ⟨c00,c01,c02⟩:=L.b0.a3
 obtain ⟨f00,f01,f02⟩:=L.b0.f3
 refine (H1.out _ L.below).mono ?_
 rintro e w1 ⟨rfl, be⟩
 clear c00 f00 c01 f01 c02 f02
 replace L:=L.step be
 clear be
 obtain ⟨c00,c01,c02⟩:=L.b0.a3
 obtain ⟨f00,f01,f02⟩:=L.b0.f3
 cases hs : sval b l
 ·obtain rfl : r = false:=by rw [← HR.out, hs]; rfl
  go_wp2_with fail
  go_ret
  exact ⟨rfl, L.below⟩
 ·have ht:=(Bool.and_eq_true _ _ ▸ hs : isTrim l = true ∧ _).1
  have I1:=isN_trim8 (h.mono L.below) ht
  rcases Nat.eq_zero_or_pos n with hz | hz
  ·subst hz
   obtain rfl : decide (e = 0) = r:=by rw [← HR.out, hs]; rfl
   by_cases he : e = 0
   ·subst he
    go_wp2_with fail
    go_ret
    exact ⟨rfl, L.below⟩
   ·have hee : (e == 0) = false:=by simpa using he
    go_wp2_with fail
    go_ret
    exact ⟨by simp [he], L.below⟩
  ·have hz0 : (0 : Int) < (n : Int):=by omega
   rw [hs, if_neg (show ¬ n = 0 by omega), Bool.true_and] at HR
   by_cases q1 : bl ≤ 65536
   ·have p1 : decide ((bl : Int) ≤ 65536) = true:=decide_eq_true (by omega)
    rw [decide_eq_true q1, Bool.true_and] at HR
    by_cases q2 : -65536 ≤ e
    ·have p2 : decide (-65536 ≤ e) = true:=decide_eq_true q2
     rw [decide_eq_true q2, Bool.true_and] at HR
     by_cases q3 : e ≤ 65536
     ·have p3 : decide (e ≤ 65536) = true:=decide_eq_true q3
      rw [decide_eq_true q3, Bool.true_and] at HR
      obtain rfl : b4 = r:=HR.out
      clear HR q1 q2 q3
      go_wp2_with fail
      refine (HG.out _ _ I1).mono ?_
      rintro e9 w' ⟨rfl, rfl⟩
      go_wp2_with fail
      refine (HB.out _ _ I1).mono ?_
      rintro e9 w' ⟨rfl, rfl⟩
      go_wp2_with fail
      go_ret
      exact ⟨rfl, L.below⟩
     ·have p3 : decide (e ≤ 65536) = false:=decide_eq_false q3
      rw [p3, Bool.false_and] at HR
      obtain rfl : false = r:=HR.out
      clear HR q1 q2 q3
      go_wp2_with fail
      refine (HG.out _ _ I1).mono ?_
      rintro e9 w' ⟨rfl, rfl⟩
      go_wp2_with fail
      go_ret
      exact ⟨rfl, L.below⟩
    ·have p2 : decide (-65536 ≤ e) = false:=decide_eq_false q2
     rw [p2, Bool.false_and] at HR
     obtain rfl : false = r:=HR.out
     clear HR q1 q2
     go_wp2_with fail
     refine (HG.out _ _ I1).mono ?_
     rintro e9 w' ⟨rfl, rfl⟩
     go_wp2_with fail
     go_ret
     exact ⟨rfl, L.below⟩
   ·have p1 : decide ((bl : Int) ≤ 65536) = false:=decide_eq_false (by omega)
    rw [decide_eq_false q1, Bool.false_and] at HR
    obtain rfl : false = r:=HR.out
    clear HR q1
    go_wp2_with fail
    refine (HG.out _ _ I1).mono ?_
    rintro e9 w' ⟨rfl, rfl⟩
    go_wp2_with fail
    go_ret
    exact ⟨rfl, L.below⟩
theorem rvalid8_d (m e : Int) (vx : Value) (w : World) (hx : IsD w vx m e) (lm : zl m ≤ 1000000) :
  Calls Tryz.prog 77 #[vx] w (RetB w (if m = 0 then decide (e = 0) else fits8 m e)):=by
 obtain ⟨s, rfl, hs⟩:=hx
 obtain ⟨A, n, c, rfl, hs⟩:=hs
 have hl:=hs.len
 rw [length_dig] at hl
 have:=rvalid8_any (ng m) _ A n c e w hs (by unfold zl at lm; omega)
 rwa [dval_any] at this

end Go.Proofs.YtiddbhhhmeopeaaGreatDoor


/- The reference's Make. -/
namespace Go.Proofs.YtiddbhhhmeopeaaGreatDoor
set_option maxHeartbeats 64000000
open Go.RowKit
set_option linter.unusedVariables false
set_option linter.unusedSimpArgs false
set_option maxRecDepth 100000
attribute [local go_sem ↓] Go.wp_at_zero Go.wp_at_succ
theorem tz_le8 (x : Nat) (h : 0 < x) : tz x ≤ 32 * len x:=by
 obtain ⟨k, hk⟩:=tz_form h
 have h1 : 2 ^ tz x ≤ x:=by
  have : 2 ^ tz x * 1 ≤ 2 ^ tz x * (2 * k + 1):=Nat.mul_le_mul_left _ (by omega)
  omega
 have h2:=Nat.lt_of_le_of_lt h1 (lt_two_pow_blen x)
 have h3:=(Nat.pow_lt_pow_iff_right (by omega : 1 < 2)).1 h2
 have:=blen_le_len x
 omega

theorem rmake8_any (m e : Int) (vm : Value) (w : World) (hm : IsZ w vm m) (lm : zl m ≤ 1000000) :
  Calls Tryz.prog 24 #[vm, .int .i64 e] w (RetDE w (mkM m e) (mkE m e) (mkR m e)):=by
 obtain ⟨A, c, rfl, hn⟩:=hm.form
 have L0:=(Lq.mk0 w).n hn
 obtain ⟨R, hR⟩:=nm9 (mkR m e)
 obtain ⟨M2, hM2⟩:=nm9 (mkM m e)
 obtain ⟨E2, hE2⟩:=nm9 (mkE m e)
 rw [hR, hM2, hE2]
 unfold mkM at hM2
 unfold mkE at hE2
 rw [hR] at hM2 hE2
 unfold mkR at hR
 by_cases q1 : e < -131072
 ·obtain rfl : 1 = R:=by rw [← hR, if_pos (Or.inl q1)]
  obtain rfl : 0 = M2:=by simpa using hM2
  obtain rfl : 0 = E2:=by simpa using hE2
  have b1 : decide (e < -131072) = true:=decide_eq_true q1
  clear hR hM2 hE2 hm hn
  go_enter Tryz.func24, Tryz.ntmps24
  go_wp2_with fail
  have L:=((L0.varZ (w.heap.size) (by simp) (ng m) A (zl m) c).varD (w.heap.size + 1) (by simp) false none 0 0 0)
  obtain ⟨c00,c01,c02⟩:=L.b0.a3
  obtain ⟨f00,f01,f02⟩:=L.b0.f3
  obtain ⟨c10,c11⟩:=L.tl.b0.a2
  obtain ⟨f10,f11⟩:=L.tl.b0.f2
  (try go_wp2_with fail)
  exact bodyPost_ret (v:=.tuple #[.agg #[.bool false, .slice none 0 0, .int .i64 0], .int .i64 1]) (by simp [results, Tryz.results24, go_sem, c00, c01, c02]) rfl ⟨_, rfl, isD_zero _, L.below⟩
 ·have b1 : decide (e < -131072) = false:=decide_eq_false q1
  by_cases q2 : 131072 < e
  ·obtain rfl : 1 = R:=by rw [← hR, if_pos (Or.inr q2)]
   obtain rfl : 0 = M2:=by simpa using hM2
   obtain rfl : 0 = E2:=by simpa using hE2
   have b2 : decide (131072 < e) = true:=decide_eq_true q2
   clear hR hM2 hE2 hm hn
   go_enter Tryz.func24, Tryz.ntmps24
   go_wp2_with fail
   have L:=((L0.varZ (w.heap.size) (by simp) (ng m) A (zl m) c).varD (w.heap.size + 1) (by simp) false none 0 0 0)
   obtain ⟨c00,c01,c02⟩:=L.b0.a3
   obtain ⟨f00,f01,f02⟩:=L.b0.f3
   obtain ⟨c10,c11⟩:=L.tl.b0.a2
   obtain ⟨f10,f11⟩:=L.tl.b0.f2
   (try go_wp2_with fail)
   exact bodyPost_ret (v:=.tuple #[.agg #[.bool false, .slice none 0 0, .int .i64 0], .int .i64 1]) (by simp [results, Tryz.results24, go_sem, c00, c01, c02]) rfl ⟨_, rfl, isD_zero _, L.below⟩
  ·have b2 : decide (131072 < e) = false:=decide_eq_false q2
   rw [if_neg (by omega)] at hR
   rcases Nat.eq_zero_or_pos (zl m) with h0 | h0
   ·obtain rfl:=zl_eq_zero h0
    obtain rfl : 0 = R:=by simpa using hR
    obtain rfl : 0 = M2:=by simpa [oddM_zero] using hM2
    obtain rfl : 0 = E2:=by simpa using hE2
    rw [h0]
    rw [h0] at L0
    clear hR hM2 hE2 hm hn
    go_enter Tryz.func24, Tryz.ntmps24
    go_wp2_with fail
    have L:=((L0.varZ (w.heap.size) (by simp) (ng 0) A 0 c).varD (w.heap.size + 1) (by simp) false none 0 0 0)
    obtain ⟨c00,c01,c02⟩:=L.b0.a3
    obtain ⟨f00,f01,f02⟩:=L.b0.f3
    obtain ⟨c10,c11⟩:=L.tl.b0.a2
    obtain ⟨f10,f11⟩:=L.tl.b0.f2
    (try go_wp2_with fail)
    exact bodyPost_ret (v:=.tuple #[.agg #[.bool false, .slice none 0 0, .int .i64 0], .int .i64 0]) (by simp [results, Tryz.results24, go_sem, c00, c01, c02]) rfl ⟨_, rfl, isD_zero _, L.below⟩
   ·have hm0 : m ≠ 0:=fun h => by rw [h, zl_zero] at h0; omega
    have hp : (0 : Int) < (zl m : Int):=by omega
    rw [if_neg hm0] at hR hE2
    have hlm : len m.natAbs ≤ 1000000:=lm
    have hM0 : oddM m ≠ 0:=fun h => by have:=oddM_pos hm0; rw [h] at this; exact absurd this (by decide)
    have hzl:=zl_odd m
    have HT:=Hd9 (fun v W h => rzeros_any m.natAbs v W h (by omega))
    have hzz : tz m.natAbs ≤ 32000000:=by
     have:=tz_le8 m.natAbs (by omega)
     omega
    have hso : oddM m = sg (ng m) (m.natAbs / 2 ^ tz m.natAbs):=rfl
    have hse : oddE m e = e + (tz m.natAbs : Int):=rfl
    have HV:=Hd9 (fun v W h => rvalid8_d (oddM m) (oddE m e) v W h (by omega))
    rw [if_neg hM0] at HV
    obtain ⟨z, hz⟩:=nm9 (tz m.natAbs)
    rw [hz] at HT hzz hso hse
    have hyl : len (m.natAbs / 2 ^ z) ≤ 1000000:=Nat.le_trans (len_mono (Nat.div_le_self _ _)) hlm
    have HS:=Hd9 (fun v W h => rshrK_any m.natAbs z v W h (by omega) (by omega))
    obtain ⟨y, hy⟩:=nm9 (m.natAbs / 2 ^ z)
    rw [hy] at HS hso hyl
    have HN:=Hd9 (fun v W h => rznatN_any (ng m) y v W h (by omega))
    rw [← hso] at HN
    obtain ⟨ok, hok⟩:=nm9 (fits8 (oddM m) (oddE m e))
    rw [hok] at hR HV
    obtain ⟨M, hM⟩:=nm9 (oddM m)
    obtain ⟨E, hE⟩:=nm9 (oddE m e)
    rw [hM] at hM2 HV HN
    rw [hE] at hE2 HV hse
    have hw : IntKind.i64.wrap (e + (z : Int)) = E:=by rw [hse, IntKind.wrap_i64]; omega
    have HF : (ok = false → R = 3 ∧ M2 = 0 ∧ E2 = 0) ∧ (ok = true → R = 0 ∧ M2 = M ∧ E2 = E):=by
     refine ⟨fun h => ?_, fun h => ?_⟩ <;> subst h <;> simp at hR <;> subst hR <;> simp at hM2 hE2 <;> exact ⟨rfl, hM2.symm, hE2.symm⟩
    clear hR hM2 hE2 hso hse hM0 hzl hok hM hE hy hz hyl hlm hm0 h0
    go_enter Tryz.func24, Tryz.ntmps24
    go_wp2_with fail
    have L:=((L0.varZ (w.heap.size) (by simp) (ng m) A (zl m) c).varD (w.heap.size + 1) (by simp) false none 0 0 0)
    obtain ⟨c00,c01,c02⟩:=L.b0.a3
    obtain ⟨f00,f01,f02⟩:=L.b0.f3
    obtain ⟨c10,c11⟩:=L.tl.b0.a2
    obtain ⟨f10,f11⟩:=L.tl.b0.f2
    (try go_wp2_with fail)
    refine (HT.out _ _ (L.getN (by simp))).mono ?_
    rintro e w' ⟨rfl, rfl⟩
    clear c00 f00 c01 f01 c02 f02 c10 f10 c11 f11
    have HNm:=Hd9 (hn.mono L.below)
    obtain ⟨V, hV⟩:=nm9 ((w.alloc (.cells #[.bool (ng m), .slice A (zl m) c] 24)).alloc (.cells #[.bool false, .slice none 0 0, .int .i64 0] 26))
    rw [hV] at L HNm ⊢
    clear hV
    have hgm0:=L.b0.lt
    have Q0:=Hd9 (fun Z (hZ : Below V.heap.size V Z) => (L.tl.b0.mono hZ).c20)
    have Q1:=Hd9 (fun Z (hZ : Below V.heap.size V Z) => (L.tl.b0.mono hZ).c21)
    have LL:=Hd9 L
    clear L hn hm
    obtain ⟨c00,c01,c02⟩:=LL.out.b0.a3
    obtain ⟨c10,c11⟩:=LL.out.tl.b0.a2
    go_wp2_with fail
    clear c00 c01 c02 c10 c11
    have D0 : Dq V V [(.slice A (zl m) c, m.natAbs)] [] [] []:=⟨(Lq.mk0 V).n HNm.out, List.nodup_nil, fun p hp => by cases hp⟩
    have D:=D0.drew
    obtain ⟨K, hK⟩:=nm9 (V.heap.size)
    have hz0 : K ≤ V.heap.size:=by omega
    have hmx : w.heap.size < K:=by omega
    have hmd : V.drew.heap.size = K:=hK
    go_cut [7] from 23 to 33 (fun s5 wx => Made1D V M E s5 wx)
    case first =>
     go_region_held3 (fun w' => w'.cell? ⟨w.heap.size, 0, none⟩ = some (.bool (ng m)) ∧ w'.cell? ⟨w.heap.size, 1, none⟩ = some (.slice A (zl m) c)) (((try dsimp only); refine ⟨?_, ?_⟩ <;> (repeat (first | (with_reducible exact Q0.out _ D.lq.below) | (with_reducible exact Q0.out _ D0.lq.below) | (with_reducible exact Q1.out _ D.lq.below) | (with_reducible exact Q1.out _ D0.lq.below) | (with_reducible refine c_alloc _ ?_) | (with_reducible refine c_drew ?_) | (with_reducible refine c_set ?_ (by assumption) ?_) | omega)))) (first | (go_at_call 76; (with_reducible refine (HS.out _ _ ?_ ).mono ?_); (· (first | (with_reducible refine D.getN ?_; (repeat (first | (with_reducible exact mS) | apply mT))) | (with_reducible refine (D.boxD false none 0 0 0).getN ?_; (repeat (first | (with_reducible exact mS) | apply mT))) | (with_reducible refine (D0.boxD false none 0 0 0).drew.getN ?_; (repeat (first | (with_reducible exact mS) | apply mT))))); rintro e9 wh ⟨vh, rfl, o9⟩; (first | (replace D:=(D.step o9.below).n o9.isN) | (replace D:=((D.boxMD hmd false none 0 0 0).step o9.below).n o9.isN) | (replace D:=((D.boxD false none 0 0 0).step o9.below).n o9.isN)); have hz:=(o9.below).size; (try simp at hz); (try (obtain ⟨x00,x01,x02⟩:=D.lq.b0.a3; obtain ⟨y00,y01,y02⟩:=D.lq.b0.f3)); (try obtain ⟨na, nb, nc, nd, nl⟩:=D.n0)) | (go_at_call 66; (with_reducible refine (HN.out _ _ ?_ ).mono ?_); (· (first | (with_reducible refine D.getN ?_; (repeat (first | (with_reducible exact mS) | apply mT))) | (with_reducible refine (D.boxD false none 0 0 0).getN ?_; (repeat (first | (with_reducible exact mS) | apply mT))) | (with_reducible refine (D0.boxD false none 0 0 0).drew.getN ?_; (repeat (first | (with_reducible exact mS) | apply mT))))); rintro e9 wh ⟨vh, rfl, iz, be⟩; obtain ⟨A9, c9, rfl, in9⟩:=iz.form; (first | (replace D:=(D.step be).n in9) | (replace D:=((D.boxMD hmd false none 0 0 0).step be).n in9) | (replace D:=((D.boxD false none 0 0 0).step be).n in9)); have hz:=(be).size; (try simp at hz); (try (obtain ⟨x00,x01,x02⟩:=D.lq.b0.a3; obtain ⟨y00,y01,y02⟩:=D.lq.b0.f3)); (try obtain ⟨na, nb, nc, nd, nl⟩:=D.n0)))
     all_goals
      go_wp2_with fail
      go_meet
      first
      | ((with_reducible refine made1d_a D ?_) <;> (repeat (first | (with_reducible exact mS) | apply mT)))
      | ((with_reducible refine made1d_b D ?_) <;> (repeat (first | (with_reducible exact mS) | apply mT)))
    case rest =>
     obtain ⟨g2, A3, c5, rfl, hg2, bw, hbx, hqq⟩:=hcut
     have L:=((LL.out.step bw).n hqq).b hbx
     clear D D0 hmd hz0 Q0 Q1 LL HNm
     generalize wc = wd at *
     have hne : w.heap.size + 1 ≠ g2:=by omega
     obtain ⟨c00,c01,c02⟩:=L.b0.a3
     obtain ⟨c10,c11,c12⟩:=L.tl.b0.a3
     obtain ⟨c20,c21⟩:=L.tl.tl.b0.a2
     go_wp2_with fail
     refine (HV.out _ _ (isD_n L.hn)).mono ?_
     rintro e w1 ⟨rfl, be⟩
     clear c00 c01 c02 c10 c11 c12 c20 c21
     replace L:=L.step be
     clear be
     obtain ⟨c00,c01,c02⟩:=L.b0.a3
     obtain ⟨f00,f01,f02⟩:=L.b0.f3
     obtain ⟨c10,c11,c12⟩:=L.tl.b0.a3
     obtain ⟨f10,f11,f12⟩:=L.tl.b0.f3
     obtain ⟨c20,c21⟩:=L.tl.tl.b0.a2
     cases ok
     ·obtain ⟨rfl, rfl, rfl⟩:=HF.1 rfl
      go_wp2_with fail
      have LP:=L.swap.putD (by omega) (by first | (simp; done) | (simp; omega)) false none (0) 0 (0)
      obtain ⟨k0,k1,k2⟩:=LP.b0.a3
      unfold put3 at k0 k1 k2
      exact bodyPost_ret (v:=.tuple #[.agg #[.bool false, .slice none (0) 0, .int .i64 (0)], .int .i64 3]) (by simp [results, Tryz.results24, go_sem, k0, k1, k2]) rfl ⟨_, rfl, isD_zero _, LP.below⟩
     ·obtain ⟨rfl, rfl, rfl⟩:=HF.2 rfl
      go_wp2_with fail
      have LP:=L.swap.putD (by omega) (by first | (simp; done) | (simp; omega)) (ng M2) A3 (zl M2) c5 (E2)
      obtain ⟨k0,k1,k2⟩:=LP.b0.a3
      unfold put3 at k0 k1 k2
      exact bodyPost_ret (v:=.tuple #[.agg #[.bool (ng M2), .slice A3 (zl M2) c5, .int .i64 (E2)], .int .i64 0]) (by simp [results, Tryz.results24, go_sem, k0, k1, k2]) rfl ⟨_, rfl, isD_n LP.hn, LP.below⟩


end Go.Proofs.YtiddbhhhmeopeaaGreatDoor


/- The reference's Mul, Add, Sub, Cmp. -/
namespace Go.Proofs.YtiddbhhhmeopeaaGreatDoor
set_option maxHeartbeats 64000000
open Go.RowKit
set_option linter.unusedVariables false
set_option linter.unusedSimpArgs false
set_option maxRecDepth 100000
attribute [local go_sem ↓] Go.wp_at_zero Go.wp_at_succ
def addS (m e n k : Int) : Int:=m * 2 ^ (e - min e k).toNat + n * 2 ^ (k - min e k).toNat

theorem radd8_any (m e n k : Int) (vx vy : Value) (w : World) (hx : IsD w vx m e) (hy : IsD w vy n k) (lm : zl m ≤ 100000) (ln : zl n ≤ 100000) (he : -100000 ≤ e ∧ e ≤ 100000) (hk : -100000 ≤ k ∧ k ≤ 100000) :
  Calls Tryz.prog 32 #[vx, vy] w (RetDE w (mkM (addS m e n k) (min e k)) (mkE (addS m e n k) (min e k)) (mkR (addS m e n k) (min e k))):=by
 obtain ⟨A, c, rfl, hz, hn⟩:=hx.form
 obtain ⟨B, d, rfl, hz2, hn2⟩:=hy.form
 have L0:=((Lq.mk0 w).z hz2).z hz
 obtain ⟨F, hF⟩:=nm9 (min e k)
 obtain ⟨p, hp⟩ : ∃ p : Nat, (p : Int) = e - F:=⟨(e - F).toNat, by omega⟩
 obtain ⟨q, hq⟩ : ∃ q : Nat, (q : Int) = k - F:=⟨(k - F).toNat, by omega⟩
 have tp : (e - F).toNat = p:=by omega
 have tq : (k - F).toNat = q:=by omega
 have hw1 : IntKind.i64.wrap (e - F) = (p : Int):=by rw [hp, IntKind.wrap_i64]; omega
 have hw2 : IntKind.i64.wrap (k - F) = (q : Int):=by rw [hq, IntKind.wrap_i64]; omega
 have l1:=zl_shl m p
 have l2:=zl_shl n q
 have l3:=zl_add (m * 2 ^ p) (n * 2 ^ q)
 have H1:=Hd9 (fun v W h => rzshl_any m v W h (by omega) p (by omega))
 have H2:=Hd9 (fun v W h => rzshl_any n v W h (by omega) q (by omega))
 have H3:=Hd9 (fun v u W h1 h2 => rzadd_any (m * 2 ^ p) (n * 2 ^ q) v u W h1 h2 (by omega) (by omega))
 have HM0:=fun v W h => rmake8_any (m * 2 ^ p + n * 2 ^ q) F v W h (by omega)
 clear hx hy hz hn hz2 hn2
 unfold addS
 rw [hF, tp, tq]
 obtain ⟨R, hR⟩:=nm9 (mkR (m * 2 ^ p + n * 2 ^ q) F)
 obtain ⟨M, hM⟩:=nm9 (mkM (m * 2 ^ p + n * 2 ^ q) F)
 obtain ⟨E, hE⟩:=nm9 (mkE (m * 2 ^ p + n * 2 ^ q) F)
 rw [hR, hM, hE] at HM0 ⊢
 have HM:=Hd9 HM0
 clear HM0 hR hM hE
 clear l1 l2 l3 lm ln he hk tp tq hp hq
 generalize m * 2 ^ p + n * 2 ^ q = p0 at *
 generalize m * 2 ^ p = p1 at *
 generalize n * 2 ^ q = p2 at *
 go_enter Tryz.func32, Tryz.ntmps32
 go_wp2_with fail
 have L:=(((L0.varD (w.heap.size) (by simp) (ng m) A (zl m) c e).varD (w.heap.size + 1) (by simp) (ng n) B (zl n) d k).varD (w.heap.size + 2) (by simp) false none 0 0 0)
 obtain ⟨c00,c01,c02⟩:=L.b0.a3
 obtain ⟨f00,f01,f02⟩:=L.b0.f3
 obtain ⟨c10,c11,c12⟩:=L.tl.b0.a3
 obtain ⟨f10,f11,f12⟩:=L.tl.b0.f3
 obtain ⟨c20,c21,c22⟩:=L.tl.tl.b0.a3
 obtain ⟨f20,f21,f22⟩:=L.tl.tl.b0.f3
 go_wp2_with fail
 clear c00 f00 c01 f01 c02 f02 c10 f10 c11 f11 c12 f12 c20 f20 c21 f21 c22 f22
 replace L:=L.drew
 obtain ⟨c00,c01,c02⟩:=L.b0.a3
 obtain ⟨f00,f01,f02⟩:=L.b0.f3
 obtain ⟨c10,c11,c12⟩:=L.tl.b0.a3
 obtain ⟨c20,c21,c22⟩:=L.tl.tl.b0.a3
 go_region_held3 (fun w' => w'.cell? ⟨w.heap.size, 0, none⟩ = some (.bool (ng m)) ∧ w'.cell? ⟨w.heap.size, 1, none⟩ = some (.slice A (zl m) c) ∧ w'.cell? ⟨w.heap.size, 2, none⟩ = some (.int .i64 e) ∧ w'.cell? ⟨w.heap.size + 1, 0, none⟩ = some (.bool (ng n)) ∧ w'.cell? ⟨w.heap.size + 1, 1, none⟩ = some (.slice B (zl n) d) ∧ w'.cell? ⟨w.heap.size + 1, 2, none⟩ = some (.int .i64 k)) (first | (with_reducible exact ⟨L.tl.tl.b0.c30, L.tl.tl.b0.c31, L.tl.tl.b0.c32, L.tl.b0.c30, L.tl.b0.c31, L.tl.b0.c32⟩) | exact ⟨L.tl.tl.b0.c30, L.tl.tl.b0.c31, L.tl.tl.b0.c32, L.tl.b0.c30, L.tl.b0.c31, L.tl.b0.c32⟩ | (have LP:=L.putD (by omega) (by first | (simp; done) | (simp; omega)) (ng M) A9 (zl M) c9 (E); exact ⟨LP.tl.tl.b0.c30, LP.tl.tl.b0.c31, LP.tl.tl.b0.c32, LP.tl.b0.c30, LP.tl.b0.c31, LP.tl.b0.c32⟩)) (first | (go_at_call 85; (with_reducible refine (H1.out _ _ ?_ ).mono ?_); (· (refine L.getZ ?_; (repeat (first | (with_reducible exact mS) | apply mT)))); rintro e wh ⟨vh, rfl, iz, be⟩; replace L:=(L.step be).z iz; obtain ⟨A8, c8, rfl, _⟩:=iz.form; clear be iz; (try (obtain ⟨x00,x01,x02⟩:=L.b0.a3; obtain ⟨y00,y01,y02⟩:=L.b0.f3))) | (go_at_call 85; (with_reducible refine (H2.out _ _ ?_ ).mono ?_); (· (refine L.getZ ?_; (repeat (first | (with_reducible exact mS) | apply mT)))); rintro e wh ⟨vh, rfl, iz, be⟩; replace L:=(L.step be).z iz; obtain ⟨A8, c8, rfl, _⟩:=iz.form; clear be iz; (try (obtain ⟨x00,x01,x02⟩:=L.b0.a3; obtain ⟨y00,y01,y02⟩:=L.b0.f3))) | (go_at_call 84; (with_reducible refine (H3.out _ _ _ ?_ ?_ ).mono ?_); (· (refine L.getZ ?_; (repeat (first | (with_reducible exact mS) | apply mT)))); (· (refine L.getZ ?_; (repeat (first | (with_reducible exact mS) | apply mT)))); rintro e wh ⟨vh, rfl, iz, be⟩; replace L:=(L.step be).z iz; obtain ⟨A8, c8, rfl, _⟩:=iz.form; clear be iz; (try (obtain ⟨x00,x01,x02⟩:=L.b0.a3; obtain ⟨y00,y01,y02⟩:=L.b0.f3))) | (go_at_call 24; (with_reducible refine (HM.out _ _ ?_ ).mono ?_); (· (refine L.getZ ?_; (repeat (first | (with_reducible exact mS) | apply mT)))); rintro e wh ⟨vh, rfl, id, be⟩; obtain ⟨A9, c9, rfl, _, in9⟩:=id.form; replace L:=(L.step be).n in9; clear be id in9; (try (obtain ⟨x00,x01,x02⟩:=L.b0.a3; obtain ⟨y00,y01,y02⟩:=L.b0.f3))))
 clear c00 f00 c01 f01 c02 f02 c10 c11 c12 c20 c21 c22
 go_wp2_with fail
 have LP:=L.putD (by omega) (by first | (simp; done) | (simp; omega)) (ng M) A9 (zl M) c9 (E)
 obtain ⟨k0,k1,k2⟩:=LP.b0.a3
 unfold put3 at k0 k1 k2
 exact bodyPost_ret (v:=.tuple #[.agg #[.bool (ng M), .slice A9 (zl M) c9, .int .i64 (E)], .int .i64 R]) (by simp [results, Tryz.results32, go_sem, k0, k1, k2]) rfl ⟨_, rfl, isD_n LP.hn, LP.below⟩
theorem rcmp8_any (m e n k : Int) (vx vy : Value) (w : World) (hx : IsD w vx m e) (hy : IsD w vy n k) (lm : zl m ≤ 100000) (ln : zl n ≤ 100000) (he : -100000 ≤ e ∧ e ≤ 100000) (hk : -100000 ≤ k ∧ k ≤ 100000) :
  Calls Tryz.prog 53 #[vx, vy] w (RetI w (cmpI (m * 2 ^ (e - min e k).toNat) (n * 2 ^ (k - min e k).toNat))):=by
 obtain ⟨A, c, rfl, hz, hn⟩:=hx.form
 obtain ⟨B, d, rfl, hz2, hn2⟩:=hy.form
 have L0:=((Lq.mk0 w).z hz2).z hz
 obtain ⟨F, hF⟩:=nm9 (min e k)
 obtain ⟨p, hp⟩ : ∃ p : Nat, (p : Int) = e - F:=⟨(e - F).toNat, by omega⟩
 obtain ⟨q, hq⟩ : ∃ q : Nat, (q : Int) = k - F:=⟨(k - F).toNat, by omega⟩
 have tp : (e - F).toNat = p:=by omega
 have tq : (k - F).toNat = q:=by omega
 have hw1 : IntKind.i64.wrap (e - F) = (p : Int):=by rw [hp, IntKind.wrap_i64]; omega
 have hw2 : IntKind.i64.wrap (k - F) = (q : Int):=by rw [hq, IntKind.wrap_i64]; omega
 have l1:=zl_shl m p
 have l2:=zl_shl n q
 have l3:=zl_add (m * 2 ^ p) (n * 2 ^ q)
 have H1:=Hd9 (fun v W h => rzshl_any m v W h (by omega) p (by omega))
 have H2:=Hd9 (fun v W h => rzshl_any n v W h (by omega) q (by omega))
 have H3:=Hd9 (fun v u W h1 h2 => rzcmp_any (m * 2 ^ p) (n * 2 ^ q) v u W h1 h2 (by omega) (by omega))
 clear hx hy hz hn hz2 hn2
 rw [hF, tp, tq]
 clear l1 l2 l3 lm ln he hk tp tq hp hq
 generalize cmpI (m * 2 ^ p) (n * 2 ^ q) = r at *
 generalize m * 2 ^ p = p1 at *
 generalize n * 2 ^ q = p2 at *
 go_enter Tryz.func53, Tryz.ntmps53
 go_wp2_with fail
 have L:=((L0.varD (w.heap.size) (by simp) (ng m) A (zl m) c e).varD (w.heap.size + 1) (by simp) (ng n) B (zl n) d k)
 obtain ⟨c00,c01,c02⟩:=L.b0.a3
 obtain ⟨f00,f01,f02⟩:=L.b0.f3
 obtain ⟨c10,c11,c12⟩:=L.tl.b0.a3
 obtain ⟨f10,f11,f12⟩:=L.tl.b0.f3
 go_wp2_with fail
 clear c00 f00 c01 f01 c02 f02 c10 f10 c11 f11 c12 f12
 replace L:=L.drew
 obtain ⟨c00,c01,c02⟩:=L.b0.a3
 obtain ⟨f00,f01,f02⟩:=L.b0.f3
 obtain ⟨c10,c11,c12⟩:=L.tl.b0.a3
 go_region_held3 (fun w' => w'.cell? ⟨w.heap.size, 0, none⟩ = some (.bool (ng m)) ∧ w'.cell? ⟨w.heap.size, 1, none⟩ = some (.slice A (zl m) c) ∧ w'.cell? ⟨w.heap.size, 2, none⟩ = some (.int .i64 e) ∧ w'.cell? ⟨w.heap.size + 1, 0, none⟩ = some (.bool (ng n)) ∧ w'.cell? ⟨w.heap.size + 1, 1, none⟩ = some (.slice B (zl n) d) ∧ w'.cell? ⟨w.heap.size + 1, 2, none⟩ = some (.int .i64 k)) (first | (with_reducible exact ⟨L.tl.b0.c30, L.tl.b0.c31, L.tl.b0.c32, L.b0.c30, L.b0.c31, L.b0.c32⟩) | exact ⟨L.tl.b0.c30, L.tl.b0.c31, L.tl.b0.c32, L.b0.c30, L.b0.c31, L.b0.c32⟩) (first | (go_at_call 85; (with_reducible refine (H1.out _ _ ?_ ).mono ?_); (· (refine L.getZ ?_; (repeat (first | (with_reducible exact mS) | apply mT)))); rintro e wh ⟨vh, rfl, iz, be⟩; replace L:=(L.step be).z iz; obtain ⟨A8, c8, rfl, _⟩:=iz.form; clear be iz; (try (obtain ⟨x00,x01,x02⟩:=L.b0.a3; obtain ⟨y00,y01,y02⟩:=L.b0.f3))) | (go_at_call 85; (with_reducible refine (H2.out _ _ ?_ ).mono ?_); (· (refine L.getZ ?_; (repeat (first | (with_reducible exact mS) | apply mT)))); rintro e wh ⟨vh, rfl, iz, be⟩; replace L:=(L.step be).z iz; obtain ⟨A8, c8, rfl, _⟩:=iz.form; clear be iz; (try (obtain ⟨x00,x01,x02⟩:=L.b0.a3; obtain ⟨y00,y01,y02⟩:=L.b0.f3))) | (go_at_call 108; (with_reducible refine (H3.out _ _ _ ?_ ?_ ).mono ?_); (· (refine L.getZ ?_; (repeat (first | (with_reducible exact mS) | apply mT)))); (· (refine L.getZ ?_; (repeat (first | (with_reducible exact mS) | apply mT)))); rintro e wh ⟨rfl, be⟩; replace L:=L.step be; clear be))
 clear c00 f00 c01 f01 c02 f02 c10 c11 c12
 go_wp2_with fail
 go_ret
 exact ⟨rfl, L.below⟩
end Go.Proofs.YtiddbhhhmeopeaaGreatDoor


/- The reference's Same, one, Rat, Of, From. -/
namespace Go.Proofs.YtiddbhhhmeopeaaGreatDoor
set_option maxHeartbeats 64000000
open Go.RowKit
set_option linter.unusedVariables false
set_option linter.unusedSimpArgs false
set_option maxRecDepth 100000
attribute [local go_sem ↓] Go.wp_at_zero Go.wp_at_succ

theorem z_parts (x y : Int) : decide (x = y) = ((ng x == ng y) && sameB x.natAbs y.natAbs):=by
 unfold ng sameB
 by_cases h : x = y
 ·subst h; simp
 ·rw [decide_eq_false h]
  symm
  rw [Bool.and_eq_false_iff]
  by_cases h2 : x.natAbs = y.natAbs
  ·left
   by_cases h3 : x < 0
   ·rw [decide_eq_true h3, decide_eq_false (by omega)]; rfl
   ·rw [decide_eq_false h3, decide_eq_true (by omega)]; rfl
  ·right; exact decide_eq_false h2

theorem zsame_any (x y : Int) (vx vy : Value) (w : World) (hx : IsZ w vx x) (hy : IsZ w vy y) :
  Calls Tryz.prog 130 #[vx, vy] w (RetB w (decide (x = y))):=by
 obtain ⟨A, c, rfl, ix⟩:=hx.form
 obtain ⟨B, d, rfl, iy⟩:=hy.form
 have L0:=((Lq.mk0 w).n iy).n ix
 clear hx hy ix iy
 rw [z_parts x y]
 have HS:=Hd9 (fun v u W h1 h2 => same_any x.natAbs y.natAbs v u W h1 h2)
 generalize sameB x.natAbs y.natAbs = r at *
 generalize ng x = b1 at *
 generalize ng y = b2 at *
 cases b1 <;> cases b2
 ·skip
  go_enter Tryz.func130, Tryz.ntmps130
  go_wp2_with fail
  have L:=((L0.varZ (w.heap.size) (by simp) false A (zl x) c).varZ (w.heap.size + 1) (by simp) false B (zl y) d)
  obtain ⟨c00,c01⟩:=L.b0.a2
  obtain ⟨f00,f01⟩:=L.b0.f2
  obtain ⟨c10,c11⟩:=L.tl.b0.a2
  obtain ⟨f10,f11⟩:=L.tl.b0.f2
  refine (HS.out _ _ _ (L.getN (by simp)) (L.getN (by simp))).mono ?_
  rintro e w' ⟨rfl, rfl⟩
  go_wp2_with fail
  go_ret
  exact ⟨by simp, L.below⟩
 ·skip
  go_enter Tryz.func130, Tryz.ntmps130
  go_wp2_with fail
  have L:=((L0.varZ (w.heap.size) (by simp) false A (zl x) c).varZ (w.heap.size + 1) (by simp) true B (zl y) d)
  obtain ⟨c00,c01⟩:=L.b0.a2
  obtain ⟨f00,f01⟩:=L.b0.f2
  obtain ⟨c10,c11⟩:=L.tl.b0.a2
  obtain ⟨f10,f11⟩:=L.tl.b0.f2
  (try go_wp2_with fail)
  go_ret
  exact ⟨by simp, L.below⟩
 ·skip
  go_enter Tryz.func130, Tryz.ntmps130
  go_wp2_with fail
  have L:=((L0.varZ (w.heap.size) (by simp) true A (zl x) c).varZ (w.heap.size + 1) (by simp) false B (zl y) d)
  obtain ⟨c00,c01⟩:=L.b0.a2
  obtain ⟨f00,f01⟩:=L.b0.f2
  obtain ⟨c10,c11⟩:=L.tl.b0.a2
  obtain ⟨f10,f11⟩:=L.tl.b0.f2
  (try go_wp2_with fail)
  go_ret
  exact ⟨by simp, L.below⟩
 ·skip
  go_enter Tryz.func130, Tryz.ntmps130
  go_wp2_with fail
  have L:=((L0.varZ (w.heap.size) (by simp) true A (zl x) c).varZ (w.heap.size + 1) (by simp) true B (zl y) d)
  obtain ⟨c00,c01⟩:=L.b0.a2
  obtain ⟨f00,f01⟩:=L.b0.f2
  obtain ⟨c10,c11⟩:=L.tl.b0.a2
  obtain ⟨f10,f11⟩:=L.tl.b0.f2
  refine (HS.out _ _ _ (L.getN (by simp)) (L.getN (by simp))).mono ?_
  rintro e w' ⟨rfl, rfl⟩
  go_wp2_with fail
  go_ret
  exact ⟨by simp, L.below⟩
theorem same8_any (m e n k : Int) (vx vy : Value) (w : World) (hx : IsD w vx m e) (hy : IsD w vy n k) :
  Calls Tryz.prog 73 #[vx, vy] w (RetB w (decide (e = k) && decide (m = n))):=by
 obtain ⟨A, c, rfl, hz, hn⟩:=hx.form
 obtain ⟨B, d, rfl, hz2, hn2⟩:=hy.form
 have L0:=((Lq.mk0 w).z hz2).z hz
 clear hx hy hz hn hz2 hn2
 have HS:=Hd9 (fun v u W h1 h2 => zsame_any m n v u W h1 h2)
 generalize decide (m = n) = r at *
 by_cases he : e = k
 ·subst he
  rw [decide_eq_true rfl, Bool.true_and]
  go_enter Tryz.func73, Tryz.ntmps73
  go_wp2_with fail
  have L:=((L0.varD (w.heap.size) (by simp) (ng m) A (zl m) c e).varD (w.heap.size + 1) (by simp) (ng n) B (zl n) d e)
  obtain ⟨c00,c01,c02⟩:=L.b0.a3
  obtain ⟨f00,f01,f02⟩:=L.b0.f3
  obtain ⟨c10,c11,c12⟩:=L.tl.b0.a3
  obtain ⟨f10,f11,f12⟩:=L.tl.b0.f3
  (try go_wp2_with fail)
  refine (HS.out _ _ _ (L.getZ (by simp)) (L.getZ (by simp))).mono ?_
  rintro e w1 ⟨rfl, be⟩
  clear c00 f00 c01 f01 c02 f02 c10 f10 c11 f11 c12 f12
  replace L:=L.step be
  clear be
  go_wp2_with fail
  go_ret
  exact ⟨rfl, L.below⟩
 ·rw [decide_eq_false he, Bool.false_and]
  have hee : (e == k) = false:=by simpa using he
  go_enter Tryz.func73, Tryz.ntmps73
  go_wp2_with fail
  have L:=((L0.varD (w.heap.size) (by simp) (ng m) A (zl m) c e).varD (w.heap.size + 1) (by simp) (ng n) B (zl n) d k)
  obtain ⟨c00,c01,c02⟩:=L.b0.a3
  obtain ⟨f00,f01,f02⟩:=L.b0.f3
  obtain ⟨c10,c11,c12⟩:=L.tl.b0.a3
  obtain ⟨f10,f11,f12⟩:=L.tl.b0.f3
  (try go_wp2_with fail)
  go_ret
  exact ⟨rfl, L.below⟩
theorem rof8_any (n : Int) (w : World) (h1 : -9223372036854775808 ≤ n) (h2 : n ≤ 9223372036854775807) :
  Calls Tryz.prog 25 #[.int .i64 n] w (RetD8 w (mkM n 0) (mkE n 0)):=by
 have HO:=Hd9 (fun W => rzof_any n W h1 h2)
 have hl : zl n ≤ 1000000:=Nat.le_trans (len_le2 (x:=n.natAbs) (by omega)) (by omega)
 have hm:=fun v W h => rmake8_any n 0 v W h hl
 generalize mkM n 0 = M at *
 generalize mkE n 0 = E at *
 generalize mkR n 0 = R at *
 have HM:=Hd9 hm
 clear hm h1 h2 hl
 go_enter Tryz.func25, Tryz.ntmps25
 go_wp2_with fail
 have L:=((Lq.mk0 w).varD (w.heap.size) (by simp) false none 0 0 0)
 obtain ⟨c00,c01,c02⟩:=L.b0.a3
 obtain ⟨f00,f01,f02⟩:=L.b0.f3
 (try go_wp2_with fail)
 refine (HO.out _).mono ?_
 rintro e w1 ⟨v1, rfl, iz, be⟩
 clear c00 f00 c01 f01 c02 f02
 replace L:=(L.step be).z iz
 clear be iz
 obtain ⟨c00,c01,c02⟩:=L.b0.a3
 obtain ⟨f00,f01,f02⟩:=L.b0.f3
 (try go_wp2_with fail)
 refine (HM.out _ _ (L.getZ (by simp))).mono ?_
 rintro e w2 ⟨v2, rfl, id, be⟩
 clear c00 f00 c01 f01 c02 f02
 obtain ⟨A9, c9, rfl, _, in9⟩:=id.form
 replace L:=(L.step be).n in9
 clear be in9 id
 obtain ⟨c00,c01,c02⟩:=L.b0.a3
 obtain ⟨f00,f01,f02⟩:=L.b0.f3
 have hlt:=L.b0.lt
 have LP0:=L.putD (by omega) (by first | (simp; done) | (simp; omega)) (ng M) A9 (zl M) c9 E
 have LP:=LP0.varD _ rfl (ng M) A9 (zl M) c9 E
 obtain ⟨k0,k1,k2⟩:=LP.tl.b0.a3
 unfold put3 at k0 k1 k2
 replace L:=L.varD w2.heap.size rfl (ng M) A9 (zl M) c9 E
 obtain ⟨y0,y1,y2⟩:=L.b0.a3
 go_wp2_with fail
 exact bodyPost_ret (v:=.agg #[.bool (ng M), .slice A9 (zl M) c9, .int .i64 E]) (by simp [results, Tryz.results25, go_sem, k0, k1, k2]) rfl ⟨_, rfl, isD_n LP.hn, LP.below⟩
end Go.Proofs.YtiddbhhhmeopeaaGreatDoor


/- The mill's Dyadic; the laws' pair of dyadics. -/
namespace Go.Proofs.YtiddbhhhmeopeaaGreatDoor
set_option maxHeartbeats 64000000
open Go.RowKit
set_option linter.unusedVariables false
set_option linter.unusedSimpArgs false
set_option maxRecDepth 100000
attribute [local go_sem ↓] Go.wp_at_zero Go.wp_at_succ
def Dv (m e : Int) : Prop:=(m = 0 ∧ e = 0) ∨ (m ≠ 0 ∧ fits8 m e = true)
theorem mk_ok {m e : Int} (h : mkR m e = 0) : Dv (mkM m e) (mkE m e):=by
 unfold mkM mkE
 by_cases h0 : m = 0
 ·subst h0
  left
  rw [h, if_pos rfl, if_pos rfl, oddM_zero]
  exact ⟨rfl, rfl⟩
 ·right
  rw [h, if_pos rfl, if_neg h0, if_pos rfl]
  refine ⟨fun h1 => ?_, ?_⟩
  ·have:=oddM_pos h0; rw [h1] at this; exact absurd this (by decide)
  ·unfold mkR at h
   rw [if_neg h0] at h
   split at h
   ·cases h
   ·split at h
    ·assumption
    ·cases h
theorem zl_mk (m e : Int) : zl (mkM m e) ≤ zl m:=by
 unfold mkM
 split
 ·exact zl_odd m
 ·rw [zl_zero]; omega
theorem mkE_le {m e : Int} {K : Nat} (h1 : -(K : Int) ≤ e) (h2 : e ≤ (K : Int)) : -(K : Int) ≤ mkE m e ∧ mkE m e ≤ (K : Int) + 32 * (zl m : Int):=by
 unfold mkE
 split
 ·omega
 ·next h0 =>
  split
  ·unfold oddE
   have:=tz_le8 m.natAbs (by omega)
   have e1 : zl m = len m.natAbs:=rfl
   omega
  ·omega
def RetMillD (w : World) (k K : Nat) (e : Ending) (w' : World) : Prop:=∃ v ok x f, e = .returned (.tuple #[v, .bool ok]) ∧ IsD w' v x f ∧ zl x ≤ k + 1 ∧ -(K : Int) ≤ f ∧ f ≤ (K : Int) + 32 * ((k : Int) + 1) ∧ (ok = true → Dv x f) ∧ Below w.heap.size w w'

theorem millD_any (b : Bool) (l : List Nat) (m K : Nat) (A : Option Addr) (n c : Nat) (e : Int) (w : World) (h : Sl w A n c l) (hm : m ≤ 10000) (hK : K ≤ 100000) (h1 : -9223372036854775808 ≤ e) (h2 : e ≤ 9223372036854775807) :
  Calls Tryz.prog 19 #[.agg #[.bool b, .slice A n c, .int .i64 e], .int .i64 (m : Int), .int .i64 (K : Int)] w (RetMillD w m K):=by
 have H1:=Hd9 (fun W (hW : Below w.heap.size w W) => millZ_any b l m A n c W (h.mono hW) (by omega))
 have HD:=Hd9 (fun W => mod_any e (2 * (K : Int) + 1) W (by omega) (by omega) h1 h2)
 have hg1 : 0 ≤ e % (2 * (K : Int) + 1):=Int.emod_nonneg _ (by omega)
 have hg2 : e % (2 * (K : Int) + 1) < 2 * (K : Int) + 1:=Int.emod_lt_of_pos _ (by omega)
 obtain ⟨K2, hK2⟩ : ∃ K2 : Int, 2 * (K : Int) = K2:=⟨_, rfl⟩
 obtain ⟨K3, hK3⟩ : ∃ K3 : Int, K2 + 1 = K3:=⟨_, rfl⟩
 have hw1 : IntKind.i64.wrap (2 * (K : Int)) = K2:=by rw [IntKind.wrap_i64]; omega
 have hw2 : IntKind.i64.wrap (K2 + 1) = K3:=by rw [IntKind.wrap_i64]; omega
 rw [hK2, hK3] at HD hg1 hg2
 obtain ⟨r, hr⟩:=nm9 (e % K3)
 rw [hr] at HD hg1 hg2
 obtain ⟨G, hG⟩ : ∃ G : Int, r - (K : Int) = G:=⟨_, rfl⟩
 have hw3 : IntKind.i64.wrap (r - (K : Int)) = G:=by rw [IntKind.wrap_i64]; omega
 have hG1 : -(K : Int) ≤ G:=by omega
 have hG2 : G ≤ (K : Int):=by omega
 clear h hr hG hg1 hg2 hK2 hK3
 go_enter Tryz.func19, Tryz.ntmps19
 go_wp2_with fail
 have L:=(((Lq.mk0 w).varD (w.heap.size) (by simp) b A n c e).varD (w.heap.size + 1) (by simp) false none 0 0 0)
 obtain ⟨c00,c01,c02⟩:=L.b0.a3
 obtain ⟨f00,f01,f02⟩:=L.b0.f3
 obtain ⟨c10,c11,c12⟩:=L.tl.b0.a3
 refine (H1.out _ L.below).mono ?_
 rintro e w1 ⟨v1, ok1, z, rfl, iz, lz, be⟩
 clear c00 f00 c01 f01 c02 f02 c10 c11 c12
 replace L:=(L.step be).z iz
 obtain ⟨A1, c1, rfl, in1⟩:=iz.form
 replace L:=L.n in1
 clear be iz in1
 have hlt:=L.b0.lt
 obtain ⟨c00,c01,c02⟩:=L.b0.a3
 obtain ⟨f00,f01,f02⟩:=L.b0.f3
 obtain ⟨c10,c11,c12⟩:=L.tl.b0.a3
 obtain ⟨f10,f11,f12⟩:=L.tl.b0.f3
 have LP0:=L.putD (by omega) (by first | (simp; done) | (simp; omega)) false none 0 0 0
 replace L:=L.varZ w1.heap.size rfl (ng z) A1 (zl z) c1
 cases ok1
 ·go_wp2_with fail
  have LP:=LP0.varZ _ rfl (ng z) A1 (zl z) c1
  obtain ⟨k0,k1,k2⟩:=LP.tl.b0.a3
  unfold put3 at k0 k1 k2
  exact bodyPost_ret (v:=.tuple #[.agg #[.bool false, .slice none 0 0, .int .i64 0], .bool false]) (by simp [results, Tryz.results19, go_sem, k0, k1, k2]) rfl ⟨_, _, _, _, rfl, isD_zero _, by rw [zl_zero]; omega, by omega, by omega, fun h => (by cases h), LP.below⟩
 ·clear LP0
  go_wp2_with fail
  obtain ⟨g, hg⟩:=nm9 (w1.heap.size)
  rw [hg] at L hlt ⊢
  have hm0:=fun v W h => rmake8_any z G v W h (by omega)
  have lz2:=zl_mk z G
  have hE:=mkE_le (m:=z) hG1 hG2
  have HOK:=Hd9 (fun h => mk_ok (m:=z) (e:=G) h)
  generalize mkM z G = M at *
  generalize mkE z G = E at *
  generalize mkR z G = R at *
  have HM:=Hd9 hm0
  clear hm0
  have HZ:=Hd9 (L.getZ (v:=.agg #[.bool (ng z), .slice A1 (zl z) c1]) (x:=z) (by simp))
  obtain ⟨V, hV⟩:=nm9 (w1.alloc (.cells #[.bool (ng z), .slice A1 (zl z) c1] 24))
  rw [hV] at L HZ ⊢
  clear hV hg
  have Q0:=Hd9 (fun Z (hZ : Below V.heap.size V Z) => (L.b0.mono hZ).c20)
  have Q1:=Hd9 (fun Z (hZ : Below V.heap.size V Z) => (L.b0.mono hZ).c21)
  have Q2:=Hd9 (fun Z (hZ : Below V.heap.size V Z) => (L.tl.tl.b0.mono hZ).c32)
  have hgm0:=L.b0.lt
  have LL:=Hd9 L
  clear L
  clear c00 f00 c01 f01 c02 f02 c10 f10 c11 f11 c12 f12
  have D0 : Dq V V [] [(.agg #[.bool (ng z), .slice A1 (zl z) c1], z)] [] []:=⟨(Lq.mk0 V).z HZ.out, List.nodup_nil, fun p hp => by cases hp⟩
  have D:=D0.drew
  obtain ⟨k, hk⟩:=nm9 (V.heap.size)
  have hgm : g < k:=by omega
  have hgx : w.heap.size < k:=by omega
  have hz0 : k ≤ V.heap.size:=by omega
  have hmd : V.drew.heap.size = k:=hk
  go_cut [10, 11] from 23 to 34 (fun s5 s6 wx => Made1D V M E s5 wx ∧ s6 = .int .i64 R)
  case first =>
   go_region_held3 (fun w' => w'.cell? ⟨g, 0, none⟩ = some (.bool (ng z)) ∧ w'.cell? ⟨g, 1, none⟩ = some (.slice A1 (zl z) c1) ∧ w'.cell? ⟨w.heap.size, 2, none⟩ = some (.int .i64 e)) (((try dsimp only); refine ⟨?_, ?_, ?_⟩ <;> (repeat (first | (with_reducible exact Q0.out _ D.lq.below) | (with_reducible exact Q0.out _ D0.lq.below) | (with_reducible exact Q1.out _ D.lq.below) | (with_reducible exact Q1.out _ D0.lq.below) | (with_reducible exact Q2.out _ D.lq.below) | (with_reducible exact Q2.out _ D0.lq.below) | (with_reducible refine c_alloc _ ?_) | (with_reducible refine c_drew ?_) | (with_reducible refine c_set ?_ (by assumption) ?_) | omega)))) (first | (go_at_call 15; (with_reducible refine (HD.out _ ).mono ?_); rintro e9 wh ⟨rfl, rfl⟩; (try (obtain ⟨x00,x01,x02⟩:=D.lq.b0.a3; obtain ⟨y00,y01,y02⟩:=D.lq.b0.f3)); (try obtain ⟨na, nb, nc, nd, nl⟩:=D.n0)) | (go_at_call 24; (with_reducible refine (HM.out _ _ ?_ ).mono ?_); (· (first | (with_reducible refine D.getZ ?_; (repeat (first | (with_reducible exact mS) | apply mT))) | (with_reducible refine (D.boxD false none 0 0 0).getZ ?_; (repeat (first | (with_reducible exact mS) | apply mT))) | (with_reducible refine (D0.boxD false none 0 0 0).drew.getZ ?_; (repeat (first | (with_reducible exact mS) | apply mT))))); rintro e9 wh ⟨vh, rfl, id, be⟩; obtain ⟨A9, c9, rfl, _, in9⟩:=id.form; (first | (replace D:=(D.step be).n in9) | (replace D:=((D.boxMD hmd false none 0 0 0).step be).n in9) | (replace D:=((D.boxD false none 0 0 0).step be).n in9)); have hz:=(be).size; (try simp at hz); (try (obtain ⟨x00,x01,x02⟩:=D.lq.b0.a3; obtain ⟨y00,y01,y02⟩:=D.lq.b0.f3)); (try obtain ⟨na, nb, nc, nd, nl⟩:=D.n0)))
   all_goals
    go_wp2_with fail
    go_meet
    refine ⟨?_, rfl⟩
    first
    | ((with_reducible refine made1d_a D ?_) <;> (repeat (first | (with_reducible exact mS) | apply mT)))
    | ((with_reducible refine made1d_b D ?_) <;> (repeat (first | (with_reducible exact mS) | apply mT)))
  case rest =>
   obtain ⟨⟨g2, A3, c5, rfl, hg2, bw, hbx, hqq⟩, rfl⟩:=hcut
   have L:=(LL.out.step bw).n hqq
   clear D D0 hmd hz0 hgm hgx HZ Q0 Q1 Q2
   generalize wc = wd at *
   have hne : w.heap.size + 1 ≠ g2:=by omega
   replace L:=L.b hbx
   obtain ⟨q0,q1,q2⟩:=L.b0.a3
   obtain ⟨r0,r1,r2⟩:=L.tl.tl.b0.a3
   obtain ⟨s0,s1,s2⟩:=L.tl.tl.b0.f3
   go_wp2_with fail
   have LP:=L.pull2.putD (by omega) (by first | (simp; done) | (simp; omega)) (ng M) A3 (zl M) c5 E
   obtain ⟨k0,k1,k2⟩:=LP.b0.a3
   unfold put3 at k0 k1 k2
   exact bodyPost_ret (v:=.tuple #[.agg #[.bool (ng M), .slice A3 (zl M) c5, .int .i64 E], .bool (R == 0)]) (by simp [results, Tryz.results19, go_sem, k0, k1, k2]) rfl ⟨_, _, _, _, rfl, isD_n LP.hn, by omega, by omega, by omega, fun h => HOK.out (by simpa using h), LP.below⟩

end Go.Proofs.YtiddbhhhmeopeaaGreatDoor


/- The laws' pair of dyadics. -/
namespace Go.Proofs.YtiddbhhhmeopeaaGreatDoor
set_option maxHeartbeats 64000000
open Go.RowKit
set_option linter.unusedVariables false
set_option linter.unusedSimpArgs false
set_option maxRecDepth 100000
attribute [local go_sem ↓] Go.wp_at_zero Go.wp_at_succ

end Go.Proofs.YtiddbhhhmeopeaaGreatDoor

