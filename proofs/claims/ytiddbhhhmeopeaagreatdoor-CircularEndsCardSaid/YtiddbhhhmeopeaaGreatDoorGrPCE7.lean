/- The program's grid: the closures over dyadics and what is made of them. -/
import Derived.Test.YtiddbhhhmeopeaaGreatDoorGrPAE7
import Derived.Deep.RegionHeld3
import Derived.Deep.DrawnRows
namespace Go.Proofs.YtiddbhhhmeopeaaGreatDoor
set_option maxHeartbeats 64000000
open Go.RowKit
set_option linter.unusedVariables false
set_option linter.unusedSimpArgs false
set_option maxRecDepth 100000
attribute [local go_sem ↓] Go.wp_at_zero Go.wp_at_succ

theorem gunit1_any (w : World) :
  Calls Tryz.prog 187 #[] w (RetZ w 1):=by
 have HO:=Hd9 (fun W => zof_any 1 W (by omega) (by omega))
 go_enter Tryz.func187, Tryz.ntmps187
 have L:=((Lq.mk0 w).varZ (w.heap.size) (by simp) false none 0 0)
 obtain ⟨c00,c01⟩:=L.b0.a2
 obtain ⟨f00,f01⟩:=L.b0.f2
 (try go_wp2_with fail)
 refine (HO.out _).mono ?_
 rintro e w1 ⟨v9, rfl, iz, be⟩
 clear c00 f00 c01 f01
 replace L:=(L.step be).z iz
 obtain ⟨A9, c9, rfl, _⟩:=iz.form
 clear be iz
 obtain ⟨c00,c01⟩:=L.b0.a2
 obtain ⟨f00,f01⟩:=L.b0.f2
 (try go_wp2_with fail)
 have LP:=L.putZ (by omega) (by first | (simp; done) | (simp; omega)) (ng 1) A9 (zl 1) c9
 obtain ⟨k0,k1⟩:=LP.b0.a2
 unfold put2 at k0 k1
 exact bodyPost_ret (v:=.agg #[.bool (ng 1), .slice A9 (zl 1) c9]) (by simp [results, Tryz.results187, go_sem, k0, k1]) rfl ⟨_, rfl, LP.hz, LP.below⟩
theorem gfloor1_any (m e p : Int) (g h : Nat) (A : Option Addr) (c : Nat) (w : World) (hx : IsZ w (.agg #[.bool (ng m), .slice A (zl m) c]) m) (hg : Var w g 26 #[.bool (ng m), .slice A (zl m) c, .int .i64 e]) (hh : Var w h 3 #[.int .i64 p]) (lm : zl m ≤ 1000) (he : -20000 ≤ e ∧ e ≤ 20000) (hp : permB p = true) (hT : Tab w) :
  Calls Tryz.prog 188 #[.pointer (some ⟨g, 0, none⟩), .pointer (some ⟨h, 0, none⟩)] w (RetZ w (cutQ (dq m e) p)):=by
 obtain ⟨hpa, hpb⟩:=perm_yes hp
 have hlg:=hg.lt
 have hlh:=hh.lt
 have L0:=(((Lq.mk0 w).z hx).b hg).b hh
 have H1:=Hd9 (fun v W h (hW : Below w.heap.size w W) => gfl_any m e p v W h (by omega) (by omega) (by omega) (hT.mono hW))
 generalize cutQ (dq m e) p = C at *
 clear hx hg hh lm he hp hT hpa hpb
 go_enter Tryz.func188, Tryz.ntmps188
 have L:=(L0.varZ (w.heap.size) (by simp) false none 0 0)
 obtain ⟨c00,c01⟩:=L.b0.a2
 obtain ⟨f00,f01⟩:=L.b0.f2
 have c10:=L.tl.b0.c10
 obtain ⟨c20,c21,c22⟩:=L.tl.tl.b0.a3
 (try go_wp2_with fail)
 refine (H1.out _ _ (isD_z (L.getZ (v:=.agg #[.bool (ng m), .slice A (zl m) c]) (by simp))) L.below).mono ?_
 rintro e w1 ⟨v9, rfl, iz, be⟩
 clear c00 f00 c01 f01 c10 c20 c21 c22
 replace L:=(L.step be).z iz
 obtain ⟨A9, c9, rfl, _⟩:=iz.form
 clear be iz
 obtain ⟨c00,c01⟩:=L.b0.a2
 obtain ⟨f00,f01⟩:=L.b0.f2
 have c10:=L.tl.b0.c10
 obtain ⟨c20,c21,c22⟩:=L.tl.tl.b0.a3
 (try go_wp2_with fail)
 have LP:=L.putZ (by omega) (by first | (simp; done) | (simp; omega)) (ng C) A9 (zl C) c9
 obtain ⟨k0,k1⟩:=LP.b0.a2
 unfold put2 at k0 k1
 exact bodyPost_ret (v:=.agg #[.bool (ng C), .slice A9 (zl C) c9]) (by simp [results, Tryz.results188, go_sem, k0, k1]) rfl ⟨_, rfl, LP.hz, LP.below⟩
theorem gceil1_any (m e p : Int) (g h : Nat) (A : Option Addr) (c : Nat) (w : World) (hx : IsZ w (.agg #[.bool (ng m), .slice A (zl m) c]) m) (hg : Var w g 26 #[.bool (ng m), .slice A (zl m) c, .int .i64 e]) (hh : Var w h 3 #[.int .i64 p]) (lm : zl m ≤ 1000) (he : -20000 ≤ e ∧ e ≤ 20000) (hp : permB p = true) (hT : Tab w) :
  Calls Tryz.prog 204 #[.pointer (some ⟨g, 0, none⟩), .pointer (some ⟨h, 0, none⟩)] w (RetZ w (-(cutQ (-(dq m e)) p))):=by
 obtain ⟨hpa, hpb⟩:=perm_yes hp
 have hlg:=hg.lt
 have hlh:=hh.lt
 have L0:=(((Lq.mk0 w).z hx).b hg).b hh
 have lz:=zl_neg m
 have H0:=Hd9 (fun v W h => dneg_any m e v W h (by omega))
 have h1:=fun v W h (hW : Below w.heap.size w W) => gfl_any (-m) e p v W h (by omega) (by omega) (by omega) (hT.mono hW)
 have hzc:=zl_cutD (-m) e p
 rw [dq_neg] at h1 hzc
 obtain ⟨C1, hC1⟩:=nm9 (cutQ (-(dq m e)) p)
 rw [hC1] at h1 hzc ⊢
 have H2:=Hd9 (fun v W h => zneg_any C1 v W h (by omega))
 have H1:=Hd9 h1
 generalize -C1 = C at *
 generalize -m = nm at *
 clear h1 hzc hC1 lz hx hg hh lm he hp hT hpa hpb
 go_enter Tryz.func204, Tryz.ntmps204
 have L:=(L0.varZ (w.heap.size) (by simp) false none 0 0)
 obtain ⟨c00,c01⟩:=L.b0.a2
 obtain ⟨f00,f01⟩:=L.b0.f2
 have c10:=L.tl.b0.c10
 obtain ⟨c20,c21,c22⟩:=L.tl.tl.b0.a3
 (try go_wp2_with fail)
 replace L:=L.drew
 clear c00 f00 c01 f01 c10 c20 c21 c22
 obtain ⟨c00,c01⟩:=L.b0.a2
 obtain ⟨f00,f01⟩:=L.b0.f2
 have c10:=L.tl.b0.c10
 obtain ⟨c20,c21,c22⟩:=L.tl.tl.b0.a3
 go_region_held3 (fun w' => w'.cell? ⟨g, 0, none⟩ = some (.bool (ng m)) ∧ w'.cell? ⟨g, 1, none⟩ = some (.slice A (zl m) c) ∧ w'.cell? ⟨g, 2, none⟩ = some (.int .i64 e) ∧ w'.cell? ⟨h, 0, none⟩ = some (.int .i64 p)) (first | (with_reducible exact ⟨L.tl.tl.b0.c30, L.tl.tl.b0.c31, L.tl.tl.b0.c32, L.tl.b0.c10⟩) | exact ⟨L.tl.tl.b0.c30, L.tl.tl.b0.c31, L.tl.tl.b0.c32, L.tl.b0.c10⟩ | (have LP:=L.putZ (by omega) (by first | (simp; done) | (simp; omega)) (ng C) A9 (zl C) c9; exact ⟨LP.tl.tl.b0.c30, LP.tl.tl.b0.c31, LP.tl.tl.b0.c32, LP.tl.b0.c10⟩)) (first | (go_at_call 116; (with_reducible refine (H0.out _ _ ?_ ).mono ?_); (· (refine isD_z (L.getZ ?_); (repeat (first | (with_reducible exact mS) | apply mT)))); rintro e wh ⟨vh, rfl, id, be⟩; obtain ⟨A9, c9, rfl, _, in9⟩:=id.form; replace L:=(L.step be).n in9; clear be id in9) | (go_at_call 189; (with_reducible refine (H1.out _ _ ?_ ?_ ).mono ?_); (· (refine isD_n (L.getN ?_); (repeat (first | (with_reducible exact mS) | apply mT)))); (· exact L.below); rintro e wh ⟨vh, rfl, iz, be⟩; replace L:=(L.step be).z iz; clear be iz) | (go_at_call 169; (with_reducible refine (H2.out _ _ ?_ ).mono ?_); (· (refine L.getZ ?_; (repeat (first | (with_reducible exact mS) | apply mT)))); rintro e wh ⟨vh, rfl, iz, be⟩; replace L:=(L.step be).z iz; obtain ⟨A9, c9, rfl, _⟩:=iz.form; clear be iz; (try (obtain ⟨x00,x01⟩:=L.b0.a2; obtain ⟨y00,y01⟩:=L.b0.f2))))
 clear c00 f00 c01 f01 c10 c20 c21 c22
 go_wp2_with fail
 have LP:=L.putZ (by omega) (by first | (simp; done) | (simp; omega)) (ng C) A9 (zl C) c9
 obtain ⟨k0,k1⟩:=LP.b0.a2
 unfold put2 at k0 k1
 exact bodyPost_ret (v:=.agg #[.bool (ng C), .slice A9 (zl C) c9]) (by simp [results, Tryz.results204, go_sem, k0, k1]) rfl ⟨_, rfl, LP.hz, LP.below⟩
theorem gnear1_any (m e p : Int) (g h : Nat) (A : Option Addr) (c : Nat) (w : World) (hx : IsZ w (.agg #[.bool (ng m), .slice A (zl m) c]) m) (hg : Var w g 26 #[.bool (ng m), .slice A (zl m) c, .int .i64 e]) (hh : Var w h 3 #[.int .i64 p]) (lm : zl m ≤ 1000) (he : -20000 ≤ e ∧ e ≤ 20000) (hp : permB p = true) (hT : Tab w) :
  Calls Tryz.prog 224 #[.pointer (some ⟨g, 0, none⟩), .pointer (some ⟨h, 0, none⟩)] w (RetZ w ((cutQ (dq m e) (p + 1) + 1) / 2)):=by
 obtain ⟨hpa, hpb⟩:=perm_yes hp
 have hlg:=hg.lt
 have hlh:=hh.lt
 have L0:=(((Lq.mk0 w).z hx).b hg).b hh
 have h1:=fun v W h (hW : Below w.heap.size w W) => gfl_any m e (p + 1) v W h (by omega) (by omega) (by omega) (hT.mono hW)
 have hzc:=zl_cutD m e (p + 1)
 obtain ⟨C1, hC1⟩:=nm9 (cutQ (dq m e) (p + 1))
 rw [hC1] at h1 hzc ⊢
 have h11 : zl 1 ≤ 1:=len_le1 (show 1 < 4294967296 by omega)
 have hza:=zl_add C1 1
 have HO:=Hd9 (fun W => zof_any 1 W (by omega) (by omega))
 have h3:=fun v u W k1 k2 => zadd_any C1 1 v u W k1 k2 (by omega) (by omega)
 obtain ⟨C2, hC2⟩:=nm9 (C1 + 1)
 rw [hC2] at h3 hza ⊢
 have h4 : ∀ v W, IsZ W v C2 → Below w.heap.size w W → Calls Tryz.prog 207 #[v, .int .i64 1] W (RetZ W (C2 / 2)):=fun v W h hW => zshr_any C2 v W h (by omega) 1 (by omega) (hT.mono hW)
 obtain ⟨C, hC⟩:=nm9 (C2 / 2)
 rw [hC] at h4 ⊢
 have hw : IntKind.i64.wrap (p + 1) = p + 1:=by rw [IntKind.wrap_i64]; omega
 have H1:=Hd9 h1
 have H3:=Hd9 h3
 have H4:=Hd9 h4
 clear h1 h3 h4 hzc hza h11 hC1 hC2 hC hx hg hh lm he hp hT hpa hpb
 go_enter Tryz.func224, Tryz.ntmps224
 have L:=(L0.varZ (w.heap.size) (by simp) false none 0 0)
 obtain ⟨c00,c01⟩:=L.b0.a2
 obtain ⟨f00,f01⟩:=L.b0.f2
 have c10:=L.tl.b0.c10
 obtain ⟨c20,c21,c22⟩:=L.tl.tl.b0.a3
 (try go_wp2_with fail)
 refine (H1.out _ _ (isD_z (L.getZ (v:=.agg #[.bool (ng m), .slice A (zl m) c]) (by simp))) L.below).mono ?_
 rintro e w1 ⟨v1, rfl, iz, be⟩
 clear c00 f00 c01 f01 c10 c20 c21 c22
 replace L:=(L.step be).z iz
 clear be iz
 obtain ⟨c00,c01⟩:=L.b0.a2
 obtain ⟨f00,f01⟩:=L.b0.f2
 have c10:=L.tl.b0.c10
 obtain ⟨c20,c21,c22⟩:=L.tl.tl.b0.a3
 (try go_wp2_with fail)
 refine (HO.out _).mono ?_
 rintro e w2 ⟨v2, rfl, iz, be⟩
 clear c00 f00 c01 f01 c10 c20 c21 c22
 replace L:=(L.step be).z iz
 clear be iz
 obtain ⟨c00,c01⟩:=L.b0.a2
 obtain ⟨f00,f01⟩:=L.b0.f2
 have c10:=L.tl.b0.c10
 obtain ⟨c20,c21,c22⟩:=L.tl.tl.b0.a3
 (try go_wp2_with fail)
 refine (H3.out _ _ _ (L.getZ (by simp)) (L.getZ (by simp))).mono ?_
 rintro e w3 ⟨v3, rfl, iz, be⟩
 clear c00 f00 c01 f01 c10 c20 c21 c22
 replace L:=(L.step be).z iz
 obtain ⟨A3, c3, rfl, _⟩:=iz.form
 clear be iz
 have hlt:=L.b0.lt
 replace L:=(L.varZ w3.heap.size rfl (ng C2) A3 (zl C2) c3)
 obtain ⟨c00,c01⟩:=L.b0.a2
 obtain ⟨f00,f01⟩:=L.b0.f2
 obtain ⟨c10,c11⟩:=L.tl.b0.a2
 obtain ⟨f10,f11⟩:=L.tl.b0.f2
 have c20:=L.tl.tl.b0.c10
 obtain ⟨c30,c31,c32⟩:=L.tl.tl.tl.b0.a3
 go_wp2_with fail
 refine (H4.out _ _ (L.getZ (v:=.agg #[.bool (ng C2), .slice A3 (zl C2) c3]) (by simp)) L.below).mono ?_
 rintro e w4 ⟨v9, rfl, iz, be⟩
 clear c00 f00 c01 f01 c10 f10 c11 f11 c20 c30 c31 c32
 replace L:=(L.step be).z iz
 obtain ⟨A9, c9, rfl, _⟩:=iz.form
 clear be iz
 replace L:=L.swap
 obtain ⟨c00,c01⟩:=L.b0.a2
 obtain ⟨f00,f01⟩:=L.b0.f2
 obtain ⟨c10,c11⟩:=L.tl.b0.a2
 obtain ⟨f10,f11⟩:=L.tl.b0.f2
 have c20:=L.tl.tl.b0.c10
 obtain ⟨c30,c31,c32⟩:=L.tl.tl.tl.b0.a3
 (try go_wp2_with fail)
 have LP:=L.putZ (by omega) (by first | (simp; done) | (simp; omega)) (ng C) A9 (zl C) c9
 obtain ⟨k0,k1⟩:=LP.b0.a2
 unfold put2 at k0 k1
 exact bodyPost_ret (v:=.agg #[.bool (ng C), .slice A9 (zl C) c9]) (by simp [results, Tryz.results224, go_sem, k0, k1]) rfl ⟨_, rfl, LP.hz, LP.below⟩
theorem gon_any (m e p : Int) (vx : Value) (w : World) (hx : IsD w vx m e) (lm : zl m ≤ 1000) (hp1 : -9223372036854775808 ≤ p) (hp2 : p ≤ 9223372036854775807) :
  Calls Tryz.prog 185 #[vx, .int .i64 p] w (RetB w (onB m e p)):=by
 obtain ⟨A, c, rfl, hz, hn⟩:=hx.form
 have L0:=(Lq.mk0 w).n hn
 have HP0:=fun W => gperm_any p W
 have HS0:=fun v W h => dsign_any m e v W h (by omega)
 have hsg : (cmpI m 0 == 0) = decide (m = 0):=by
  unfold cmpI
  (repeat' split) <;> simp <;> omega
 obtain ⟨sg9, hsg9⟩:=nm9 (cmpI m 0)
 rw [hsg9] at HS0 hsg
 have HS:=Hd9 HS0
 obtain ⟨r, hr⟩:=nm9 (onB m e p)
 rw [hr]
 unfold onB at hr
 clear HS0 hsg9
 cases hp : permB p
 ·rw [hp] at HP0 hr
  rw [Bool.false_and] at hr
  subst hr
  have HP:=Hd9 HP0
  clear HP0 hp hx hz hn hsg HS
  go_enter Tryz.func185, Tryz.ntmps185
  go_wp2_with fail
  have L:=(L0.varD (w.heap.size) (by simp) (ng m) A (zl m) c e)
  obtain ⟨c00,c01,c02⟩:=L.b0.a3
  obtain ⟨f00,f01,f02⟩:=L.b0.f3
  (try go_wp2_with fail)
  refine (HP.out _).mono ?_
  rintro e9 w' ⟨rfl, rfl⟩
  (try go_wp2_with fail)
  go_ret
  exact ⟨rfl, L.below⟩
 ·obtain ⟨hpa, hpb⟩:=perm_yes hp
  rw [hp] at HP0 hr
  rw [Bool.true_and] at hr
  have HP:=Hd9 HP0
  clear HP0 hp hx hz hn
  have hw : IntKind.i64.wrap (-p) = -p:=by rw [IntKind.wrap_i64]; omega
  by_cases hm : m = 0
  ·rw [decide_eq_true hm] at hsg hr
   rw [Bool.true_or] at hr
   subst hr
   clear hm
   go_enter Tryz.func185, Tryz.ntmps185
   go_wp2_with fail
   have L:=(L0.varD (w.heap.size) (by simp) (ng m) A (zl m) c e)
   obtain ⟨c00,c01,c02⟩:=L.b0.a3
   obtain ⟨f00,f01,f02⟩:=L.b0.f3
   (try go_wp2_with fail)
   refine (HP.out _).mono ?_
   rintro e9 w' ⟨rfl, rfl⟩
   (try go_wp2_with fail)
   refine (HS.out _ _ (isD_n (s:=.slice A (zl m) c) (L.getN (by simp)))).mono ?_
   rintro e w1 ⟨rfl, be⟩
   clear c00 f00 c01 f01 c02 f02
   replace L:=L.step be
   clear be
   obtain ⟨c00,c01,c02⟩:=L.b0.a3
   obtain ⟨f00,f01,f02⟩:=L.b0.f3
   (try go_wp2_with fail)
   go_ret
   exact ⟨rfl, L.below⟩
  ·rw [decide_eq_false hm] at hsg hr
   rw [Bool.false_or] at hr
   subst hr
   clear hm
   go_enter Tryz.func185, Tryz.ntmps185
   go_wp2_with fail
   have L:=(L0.varD (w.heap.size) (by simp) (ng m) A (zl m) c e)
   obtain ⟨c00,c01,c02⟩:=L.b0.a3
   obtain ⟨f00,f01,f02⟩:=L.b0.f3
   (try go_wp2_with fail)
   refine (HP.out _).mono ?_
   rintro e9 w' ⟨rfl, rfl⟩
   (try go_wp2_with fail)
   refine (HS.out _ _ (isD_n (s:=.slice A (zl m) c) (L.getN (by simp)))).mono ?_
   rintro e w1 ⟨rfl, be⟩
   clear c00 f00 c01 f01 c02 f02
   replace L:=L.step be
   clear be
   obtain ⟨c00,c01,c02⟩:=L.b0.a3
   obtain ⟨f00,f01,f02⟩:=L.b0.f3
   (try go_wp2_with fail)
   go_ret
   exact ⟨rfl, L.below⟩
theorem gunit_any (p : Int) (w : World) (hp1 : -9223372036854775808 ≤ p) (hp2 : p ≤ 9223372036854775807) (hT : Tab w) :
  Calls Tryz.prog 117 #[.int .i64 p] w (RetDE w (gM (1) p) (gE (1) p) (gR (1) p)):=by
 have hen : ∀ args w, (callFunc 187 args).run Tryz.prog w = .ok (.enter 187 args) w:=enters_of Tryz.func187 (by kernel_rfl) rfl
 have h11 : zl 1 ≤ 1:=len_le1 (show 1 < 4294967296 by omega)
 have HM:=Hd9 (fun W (hW : Below w.heap.size w W) => gmult_any 187 #[] hen 1 p (fun _ => by omega) W hp1 hp2 (hT.mono hW) (fun _ W2 _ => gunit1_any W2))
 clear hen h11 hT
 generalize gM 1 p = M at *
 generalize gE 1 p = E at *
 generalize gR 1 p = R at *
 go_enter Tryz.func117, Tryz.ntmps117
 go_wp2_with fail
 have L:=((Lq.mk0 w).varD (w.heap.size) (by simp) false none 0 0 0)
 obtain ⟨c00,c01,c02⟩:=L.b0.a3
 obtain ⟨f00,f01,f02⟩:=L.b0.f3
 (try go_wp2_with fail)
 refine (HM.out _ L.below).mono ?_
 rintro e w1 ⟨v8, rfl, id, be⟩
 clear c00 f00 c01 f01 c02 f02
 obtain ⟨A9, c9, rfl, _, in9⟩:=id.form
 replace L:=(L.step be).n in9
 clear be in9 id
 obtain ⟨c00,c01,c02⟩:=L.b0.a3
 obtain ⟨f00,f01,f02⟩:=L.b0.f3
 (try go_wp2_with fail)
 have LP:=L.putD (by omega) (by first | (simp; done) | (simp; omega)) (ng M) A9 (zl M) c9 (E)
 obtain ⟨k0,k1,k2⟩:=LP.b0.a3
 unfold put3 at k0 k1 k2
 exact bodyPost_ret (v:=.tuple #[.agg #[.bool (ng M), .slice A9 (zl M) c9, .int .i64 (E)], .int .i64 R]) (by simp [results, Tryz.results117, go_sem, k0, k1, k2]) rfl ⟨_, rfl, isD_n LP.hn, LP.below⟩
theorem gfloor_any (m e p : Int) (vx : Value) (w : World) (hx : IsD w vx m e) (lm : zl m ≤ 1000) (he : -20000 ≤ e ∧ e ≤ 20000) (hp1 : -9223372036854775808 ≤ p) (hp2 : p ≤ 9223372036854775807) (hT : Tab w) :
  Calls Tryz.prog 118 #[vx, .int .i64 p] w (RetDE w (gM (cutQ (dq m e) p) p) (gE (cutQ (dq m e) p) p) (gR (cutQ (dq m e) p) p)):=by
 obtain ⟨A, c, rfl, hz, hn⟩:=hx.form
 have L0:=(Lq.mk0 w).z hz
 have hen : ∀ args w, (callFunc 188 args).run Tryz.prog w = .ok (.enter 188 args) w:=enters_of Tryz.func188 (by kernel_rfl) rfl
 have hzl : permB p = true → zl (cutQ (dq m e) p) ≤ 30000:=fun hp => by
  obtain ⟨hpa, hpb⟩:=perm_yes hp
  have hzc:=zl_cutD m e p
  omega
 have HM:=Hd9 (fun g h W (hW : Below w.heap.size w W) (k1 : IsZ W (.agg #[.bool (ng m), .slice A (zl m) c]) m) (k2 : Var W g 26 #[.bool (ng m), .slice A (zl m) c, .int .i64 e]) (k3 : Var W h 3 #[.int .i64 p]) => gmult_any 188 #[.pointer (some ⟨g, 0, none⟩), .pointer (some ⟨h, 0, none⟩)] hen (cutQ (dq m e) p) p hzl W hp1 hp2 (hT.mono hW) (fun hp W2 h2 => gfloor1_any m e p g h A c W2 (k1.mono h2) (k2.mono h2) (k3.mono h2) lm he hp ((hT.mono hW).mono h2)))
 clear hzl hx hz hn lm he hT
 generalize gM (cutQ (dq m e) p) p = M at *
 generalize gE (cutQ (dq m e) p) p = E at *
 generalize gR (cutQ (dq m e) p) p = R at *
 go_enter Tryz.func118, Tryz.ntmps118
 go_wp2_with fail
 have L:=(((L0.varD (w.heap.size) (by simp) (ng m) A (zl m) c e).var1 (w.heap.size + 1) (by simp) p).varD (w.heap.size + 2) (by simp) false none 0 0 0)
 obtain ⟨c00,c01,c02⟩:=L.b0.a3
 obtain ⟨f00,f01,f02⟩:=L.b0.f3
 have c10:=L.tl.b0.c10
 have f10:=L.tl.b0.fr 0
 obtain ⟨c20,c21,c22⟩:=L.tl.tl.b0.a3
 obtain ⟨f20,f21,f22⟩:=L.tl.tl.b0.f3
 (try go_wp2_with fail)
 refine (HM.out _ _ _ L.below (L.getZ (by simp)) L.tl.tl.b0 L.tl.b0).mono ?_
 rintro e w1 ⟨v8, rfl, id, be⟩
 clear c00 f00 c01 f01 c02 f02 c10 f10 c20 f20 c21 f21 c22 f22
 obtain ⟨A9, c9, rfl, _, in9⟩:=id.form
 replace L:=(L.step be).n in9
 clear be in9 id
 obtain ⟨c00,c01,c02⟩:=L.b0.a3
 obtain ⟨f00,f01,f02⟩:=L.b0.f3
 have c10:=L.tl.b0.c10
 obtain ⟨c20,c21,c22⟩:=L.tl.tl.b0.a3
 (try go_wp2_with fail)
 have LP:=L.putD (by omega) (by first | (simp; done) | (simp; omega)) (ng M) A9 (zl M) c9 (E)
 obtain ⟨k0,k1,k2⟩:=LP.b0.a3
 unfold put3 at k0 k1 k2
 exact bodyPost_ret (v:=.tuple #[.agg #[.bool (ng M), .slice A9 (zl M) c9, .int .i64 (E)], .int .i64 R]) (by simp [results, Tryz.results118, go_sem, k0, k1, k2]) rfl ⟨_, rfl, isD_n LP.hn, LP.below⟩
theorem gceil_any (m e p : Int) (vx : Value) (w : World) (hx : IsD w vx m e) (lm : zl m ≤ 1000) (he : -20000 ≤ e ∧ e ≤ 20000) (hp1 : -9223372036854775808 ≤ p) (hp2 : p ≤ 9223372036854775807) (hT : Tab w) :
  Calls Tryz.prog 151 #[vx, .int .i64 p] w (RetDE w (gM (-(cutQ (-(dq m e)) p)) p) (gE (-(cutQ (-(dq m e)) p)) p) (gR (-(cutQ (-(dq m e)) p)) p)):=by
 obtain ⟨A, c, rfl, hz, hn⟩:=hx.form
 have L0:=(Lq.mk0 w).z hz
 have hen : ∀ args w, (callFunc 204 args).run Tryz.prog w = .ok (.enter 204 args) w:=enters_of Tryz.func204 (by kernel_rfl) rfl
 have hzl : permB p = true → zl (-(cutQ (-(dq m e)) p)) ≤ 30000:=fun hp => by
  obtain ⟨hpa, hpb⟩:=perm_yes hp
  have hz1:=zl_neg m
  have hz2:=zl_cutD (-m) e p
  rw [dq_neg] at hz2
  have hzc:=zl_neg (cutQ (-(dq m e)) p)
  omega
 have HM:=Hd9 (fun g h W (hW : Below w.heap.size w W) (k1 : IsZ W (.agg #[.bool (ng m), .slice A (zl m) c]) m) (k2 : Var W g 26 #[.bool (ng m), .slice A (zl m) c, .int .i64 e]) (k3 : Var W h 3 #[.int .i64 p]) => gmult_any 204 #[.pointer (some ⟨g, 0, none⟩), .pointer (some ⟨h, 0, none⟩)] hen (-(cutQ (-(dq m e)) p)) p hzl W hp1 hp2 (hT.mono hW) (fun hp W2 h2 => gceil1_any m e p g h A c W2 (k1.mono h2) (k2.mono h2) (k3.mono h2) lm he hp ((hT.mono hW).mono h2)))
 clear hzl hx hz hn lm he hT
 generalize gM (-(cutQ (-(dq m e)) p)) p = M at *
 generalize gE (-(cutQ (-(dq m e)) p)) p = E at *
 generalize gR (-(cutQ (-(dq m e)) p)) p = R at *
 go_enter Tryz.func151, Tryz.ntmps151
 go_wp2_with fail
 have L:=(((L0.varD (w.heap.size) (by simp) (ng m) A (zl m) c e).var1 (w.heap.size + 1) (by simp) p).varD (w.heap.size + 2) (by simp) false none 0 0 0)
 obtain ⟨c00,c01,c02⟩:=L.b0.a3
 obtain ⟨f00,f01,f02⟩:=L.b0.f3
 have c10:=L.tl.b0.c10
 have f10:=L.tl.b0.fr 0
 obtain ⟨c20,c21,c22⟩:=L.tl.tl.b0.a3
 obtain ⟨f20,f21,f22⟩:=L.tl.tl.b0.f3
 (try go_wp2_with fail)
 refine (HM.out _ _ _ L.below (L.getZ (by simp)) L.tl.tl.b0 L.tl.b0).mono ?_
 rintro e w1 ⟨v8, rfl, id, be⟩
 clear c00 f00 c01 f01 c02 f02 c10 f10 c20 f20 c21 f21 c22 f22
 obtain ⟨A9, c9, rfl, _, in9⟩:=id.form
 replace L:=(L.step be).n in9
 clear be in9 id
 obtain ⟨c00,c01,c02⟩:=L.b0.a3
 obtain ⟨f00,f01,f02⟩:=L.b0.f3
 have c10:=L.tl.b0.c10
 obtain ⟨c20,c21,c22⟩:=L.tl.tl.b0.a3
 (try go_wp2_with fail)
 have LP:=L.putD (by omega) (by first | (simp; done) | (simp; omega)) (ng M) A9 (zl M) c9 (E)
 obtain ⟨k0,k1,k2⟩:=LP.b0.a3
 unfold put3 at k0 k1 k2
 exact bodyPost_ret (v:=.tuple #[.agg #[.bool (ng M), .slice A9 (zl M) c9, .int .i64 (E)], .int .i64 R]) (by simp [results, Tryz.results151, go_sem, k0, k1, k2]) rfl ⟨_, rfl, isD_n LP.hn, LP.below⟩
theorem gnear_any (m e p : Int) (vx : Value) (w : World) (hx : IsD w vx m e) (lm : zl m ≤ 1000) (he : -20000 ≤ e ∧ e ≤ 20000) (hp1 : -9223372036854775808 ≤ p) (hp2 : p ≤ 9223372036854775807) (hT : Tab w) :
  Calls Tryz.prog 173 #[vx, .int .i64 p] w (RetDE w (gM ((cutQ (dq m e) (p + 1) + 1) / 2) p) (gE ((cutQ (dq m e) (p + 1) + 1) / 2) p) (gR ((cutQ (dq m e) (p + 1) + 1) / 2) p)):=by
 obtain ⟨A, c, rfl, hz, hn⟩:=hx.form
 have L0:=(Lq.mk0 w).z hz
 have hen : ∀ args w, (callFunc 224 args).run Tryz.prog w = .ok (.enter 224 args) w:=enters_of Tryz.func224 (by kernel_rfl) rfl
 have hzl : permB p = true → zl ((cutQ (dq m e) (p + 1) + 1) / 2) ≤ 30000:=fun hp => by
  obtain ⟨hpa, hpb⟩:=perm_yes hp
  have hz1:=zl_cutD m e (p + 1)
  have h11 : zl 1 ≤ 1:=len_le1 (show 1 < 4294967296 by omega)
  have hz2:=zl_add (cutQ (dq m e) (p + 1)) 1
  have hzc:=zl_shr (cutQ (dq m e) (p + 1) + 1) 1
  rw [show (2 : Int) ^ 1 = 2 from rfl] at hzc
  omega
 have HM:=Hd9 (fun g h W (hW : Below w.heap.size w W) (k1 : IsZ W (.agg #[.bool (ng m), .slice A (zl m) c]) m) (k2 : Var W g 26 #[.bool (ng m), .slice A (zl m) c, .int .i64 e]) (k3 : Var W h 3 #[.int .i64 p]) => gmult_any 224 #[.pointer (some ⟨g, 0, none⟩), .pointer (some ⟨h, 0, none⟩)] hen ((cutQ (dq m e) (p + 1) + 1) / 2) p hzl W hp1 hp2 (hT.mono hW) (fun hp W2 h2 => gnear1_any m e p g h A c W2 (k1.mono h2) (k2.mono h2) (k3.mono h2) lm he hp ((hT.mono hW).mono h2)))
 clear hzl hx hz hn lm he hT
 generalize gM ((cutQ (dq m e) (p + 1) + 1) / 2) p = M at *
 generalize gE ((cutQ (dq m e) (p + 1) + 1) / 2) p = E at *
 generalize gR ((cutQ (dq m e) (p + 1) + 1) / 2) p = R at *
 go_enter Tryz.func173, Tryz.ntmps173
 go_wp2_with fail
 have L:=(((L0.varD (w.heap.size) (by simp) (ng m) A (zl m) c e).var1 (w.heap.size + 1) (by simp) p).varD (w.heap.size + 2) (by simp) false none 0 0 0)
 obtain ⟨c00,c01,c02⟩:=L.b0.a3
 obtain ⟨f00,f01,f02⟩:=L.b0.f3
 have c10:=L.tl.b0.c10
 have f10:=L.tl.b0.fr 0
 obtain ⟨c20,c21,c22⟩:=L.tl.tl.b0.a3
 obtain ⟨f20,f21,f22⟩:=L.tl.tl.b0.f3
 (try go_wp2_with fail)
 refine (HM.out _ _ _ L.below (L.getZ (by simp)) L.tl.tl.b0 L.tl.b0).mono ?_
 rintro e w1 ⟨v8, rfl, id, be⟩
 clear c00 f00 c01 f01 c02 f02 c10 f10 c20 f20 c21 f21 c22 f22
 obtain ⟨A9, c9, rfl, _, in9⟩:=id.form
 replace L:=(L.step be).n in9
 clear be in9 id
 obtain ⟨c00,c01,c02⟩:=L.b0.a3
 obtain ⟨f00,f01,f02⟩:=L.b0.f3
 have c10:=L.tl.b0.c10
 obtain ⟨c20,c21,c22⟩:=L.tl.tl.b0.a3
 (try go_wp2_with fail)
 have LP:=L.putD (by omega) (by first | (simp; done) | (simp; omega)) (ng M) A9 (zl M) c9 (E)
 obtain ⟨k0,k1,k2⟩:=LP.b0.a3
 unfold put3 at k0 k1 k2
 exact bodyPost_ret (v:=.tuple #[.agg #[.bool (ng M), .slice A9 (zl M) c9, .int .i64 (E)], .int .i64 R]) (by simp [results, Tryz.results173, go_sem, k0, k1, k2]) rfl ⟨_, rfl, isD_n LP.hn, LP.below⟩

end Go.Proofs.YtiddbhhhmeopeaaGreatDoor
