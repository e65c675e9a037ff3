/- Joined: ExQ, RefCoB, RefCoJ, ExH, MillAr, ExK, IvPE, ExPE, Awake14, ExG, ExL, CpD, CpA, CpB, CpC, ExC, ExJ, ExV, ExR, CpE (what the law leans on). -/
import Derived.Test.YtnnfldkllhdhjaaGreatDoorBaseJR
import Derived.Test.YtnnfldkllhdhjaaGreatDoorBaseDR
import Derived.Test.YtnnfldkllhdhjaaGreatDoorBaseER
import Derived.Test.YtnnfldkllhdhjaaGreatDoorBaseMR
import Derived.Test.YtnnfldkllhdhjaaGreatDoorBaseVR
import Derived.Test.YtnnfldkllhdhjaaGreatDoorBaseFR
import Derived.Test.YtnnfldkllhdhjaaGreatDoorBaseWR
import Derived.Test.YtnnfldkllhdhjaaGreatDoorRefGrBR
import Derived.Test.YtnnfldkllhdhjaaGreatDoorBaseXR
import Derived.Test.YtnnfldkllhdhjaaGreatDoorGrPCR
import Derived.Test.YtnnfldkllhdhjaaGreatDoorBaseZR
import Derived.Test.YtnnfldkllhdhjaaGreatDoorBaseUR
import Derived.Test.YtnnfldkllhdhjaaGreatDoorJR1
import Derived.Test.YtnnfldkllhdhjaaGreatDoorJR2
import Derived.Deep.Cut
import Derived.Deep.CutRange
import Derived.Deep.DrawnRows
import Derived.Deep.LoopGhost
import Derived.Deep.RegionHeld3
namespace Go.Proofs.YtnnfldkllhdhjaaGreatDoor
open Go.RowKit
set_option linter.unusedVariables false
set_option linter.unusedSimpArgs false
set_option maxRecDepth 100000
attribute [local go_sem ↓] Go.wp_at_zero Go.wp_at_succ
structure ExS (v f t : Nat) (y : Rat) (a b p q : Int) : Prop where
 tf : t + f = v
 tm : SpC a b v (tm t y)
 sm : SpC p q v (esm (t + 1) y)
 aa : AbP a f
 bb : AbP b f
 pp : p.natAbs + 2 ^ f ≤ 2 ^ (v + 1)
 qq : q.natAbs + 2 ^ f ≤ 2 ^ (v + 1)
theorem ExS.first (v : Nat) (y : Rat) : ExS v v 0 y (2 ^ v) (2 ^ v) (2 ^ v) (2 ^ v):=by
 have h:=SpC.of 1 v
 rw [Int.one_mul, show ((1 : Int) : Rat) = 1 from rfl] at h
 have e : ((2 : Int) ^ v).natAbs = 2 ^ v:=by rw [Int.natAbs_pow]; rfl
 have h2 : ((2 : Int) ^ v).natAbs + 2 ^ v ≤ 2 ^ (v + 1):=by rw [e, Nat.pow_succ]; omega
 refine ⟨by omega, h, ?_, Nat.le_of_eq e, Nat.le_of_eq e, h2, h2⟩
 rwa [show esm (0 + 1) y = 1 from by show (0 : Rat) + 1 = 1; grind]
def sqbits (v i : Nat) : Nat:=v + (3 * 2 ^ i - 1)
structure ExD (v i : Nat) (y : Rat) (a b : Int) : Prop where
 rs : RSp a b v ((((2 : Nat) ^ i : Nat) : Rat) * y)
 aa : AbP a (sqbits v i)
 bb : AbP b (sqbits v i)
theorem ExD.first {v : Nat} {y : Rat} {a b : Int} (h : RSp a b v y) (ha : AbP a (sqbits v 0)) (hb : AbP b (sqbits v 0)) : ExD v 0 y a b:=
 ⟨by rwa [show (((2 : Nat) ^ 0 : Nat) : Rat) * y = y from by rw [Nat.pow_zero]; exact Rat.one_mul y], ha, hb⟩
set_option maxHeartbeats 8000000 in
theorem s13of_any (n : Int) (j : Nat) (w : World) (h1 : -1000 ≤ n) (h2 : n ≤ 1000) (hj : j ≤ 100000) :
  Calls Tryz.prog 65 #[.int .i64 n, .int .i64 (j : Int)] w (RetSp w (n * 2 ^ j) (n * 2 ^ j)):=by
 have L0:=Lq.mk0 w
 have h3:=len_le1 (x:=n.natAbs) (by omega)
 have g1:=fun W => rzof_any n W (by omega) (by omega)
 have g2:=fun v W h => rzshl_any n v W h (show zl n ≤ 274877906944 from Nat.le_trans h3 (by omega)) j (by omega)
 obtain ⟨x, hx⟩ : ∃ z, n * 2 ^ j = z:=⟨_, rfl⟩
 rw [hx] at g2 ⊢
 have H1:=Lib.hid g1
 have H2:=Lib.hid g2
 clear g1 g2 hx h3
 go_enter Tryz.func65, Tryz.ntmps65
 go_wp2_with fail
 have L:=(L0.varS (w.heap.size) (by simp) false none 0 0 false none 0 0)
 have c00:=L.b0.c40
 have f00:=L.b0.fr 0
 have c01:=L.b0.c41
 have f01:=L.b0.fr 1
 have c02:=L.b0.c42
 have f02:=L.b0.fr 2
 have c03:=L.b0.c43
 have f03:=L.b0.fr 3
 (try go_wp2_with fail)
 refine (H1.out _).mono ?_
 rintro e w1 ⟨v1, rfl, iz, be⟩
 clear c00 f00 c01 f01 c02 f02 c03 f03
 replace L:=(L.step be).z iz
 obtain ⟨A8, c8, rfl, _⟩:=iz.form
 clear be iz
 have c00:=L.b0.c40
 have f00:=L.b0.fr 0
 have c01:=L.b0.c41
 have f01:=L.b0.fr 1
 have c02:=L.b0.c42
 have f02:=L.b0.fr 2
 have c03:=L.b0.c43
 have f03:=L.b0.fr 3
 (try go_wp2_with fail)
 refine (H2.out _ _ (L.getZ (by simp))).mono ?_
 rintro e w2 ⟨v2, rfl, iz, be⟩
 clear c00 f00 c01 f01 c02 f02 c03 f03
 replace L:=L.step be
 obtain ⟨A9, c9, rfl, in9⟩:=iz.form
 replace L:=L.n in9
 clear be iz in9
 have c00:=L.b0.c40
 have f00:=L.b0.fr 0
 have c01:=L.b0.c41
 have f01:=L.b0.fr 1
 have c02:=L.b0.c42
 have f02:=L.b0.fr 2
 have c03:=L.b0.c43
 have f03:=L.b0.fr 3
 have hl9:=L.b0.lt
 have LN:=L.varZ w2.heap.size rfl (ng x) A9 (zl x) c9
 have n0:=LN.b0.c20
 have n1:=LN.b0.c21
 go_wp2_with fail
 clear c00 f00 c01 f01 c02 f02 c03 f03
 have LP0:=L.putS (by omega) (by simp) (ng x) A9 (zl x) c9 (ng x) A9 (zl x) c9
 have LP:=LP0.varZ _ rfl (ng x) A9 (zl x) c9
 have k0:=LP.tl.b0.c40
 have k1:=LP.tl.b0.c41
 have k2:=LP.tl.b0.c42
 have k3:=LP.tl.b0.c43
 unfold put4 at k0 k1 k2 k3
 exact bodyPost_ret (v:=.agg #[.bool (ng x), .slice A9 (zl x) c9, .bool (ng x), .slice A9 (zl x) c9]) (by simp [results, Tryz.results65, go_sem, k0, k1, k2, k3]) rfl ⟨_, rfl, isS_n (LP.getN (by simp)) (LP.getN (by simp)), LP.below⟩
set_option maxHeartbeats 8000000 in
theorem s13times_any (a b n : Int) (vx : Value) (w : World) (hx : IsS w vx a b) (la : zl a ≤ 10000) (lb : zl b ≤ 10000) (h1 : -1000 ≤ n) (h2 : n ≤ 1000) :
  Calls Tryz.prog 44 #[vx, .int .i64 n] w (RetSp w (a * n) (b * n)):=by
 obtain ⟨A, c, B, d, rfl, hn1, hn2⟩:=hx.form
 have L0:=((Lq.mk0 w).n hn2).n hn1
 have h3:=len_le1 (x:=n.natAbs) (by omega)
 have g0:=fun W => rzof_any n W (by omega) (by omega)
 have g1:=fun v u W h k => rzmul_any a n v u W h k (by omega) (show zl n ≤ 274877906944 from Nat.le_trans h3 (by omega))
 have g2:=fun v u W h k => rzmul_any b n v u W h k (by omega) (show zl n ≤ 274877906944 from Nat.le_trans h3 (by omega))
 obtain ⟨x, hx⟩ : ∃ z, a * n = z:=⟨_, rfl⟩
 obtain ⟨y, hy⟩ : ∃ z, b * n = z:=⟨_, rfl⟩
 rw [hx] at g1 ⊢
 rw [hy] at g2 ⊢
 have H0:=Lib.hid g0
 have H1:=Lib.hid g1
 have H2:=Lib.hid g2
 clear g0 g1 g2 hx hy h3 hn1 hn2 la lb
 go_enter Tryz.func44, Tryz.ntmps44
 go_wp2_with fail
 have L:=((L0.varS (w.heap.size) (by simp) (ng a) A (zl a) c (ng b) B (zl b) d).varS (w.heap.size + 1) (by simp) false none 0 0 false none 0 0)
 have c00:=L.b0.c40
 have f00:=L.b0.fr 0
 have c01:=L.b0.c41
 have f01:=L.b0.fr 1
 have c02:=L.b0.c42
 have f02:=L.b0.fr 2
 have c03:=L.b0.c43
 have f03:=L.b0.fr 3
 have c10:=L.tl.b0.c40
 have c11:=L.tl.b0.c41
 have c12:=L.tl.b0.c42
 have c13:=L.tl.b0.c43
 (try go_wp2_with fail)
 refine (H0.out _).mono ?_
 rintro e w1 ⟨v1, rfl, iz, be⟩
 clear c00 f00 c01 f01 c02 f02 c03 f03 c10 c11 c12 c13
 replace L:=L.step be
 obtain ⟨A7, c7, rfl, in9⟩:=iz.form
 replace L:=L.n in9
 clear be iz in9
 have hl9:=L.b0.lt
 replace L:=L.varZ w1.heap.size rfl (ng n) A7 (zl n) c7
 have c00:=L.b0.c20
 have f00:=L.b0.fr 0
 have c01:=L.b0.c21
 have f01:=L.b0.fr 1
 have c10:=L.tl.b0.c40
 have f10:=L.tl.b0.fr 0
 have c11:=L.tl.b0.c41
 have f11:=L.tl.b0.fr 1
 have c12:=L.tl.b0.c42
 have f12:=L.tl.b0.fr 2
 have c13:=L.tl.b0.c43
 have f13:=L.tl.b0.fr 3
 have c20:=L.tl.tl.b0.c40
 have c21:=L.tl.tl.b0.c41
 have c22:=L.tl.tl.b0.c42
 have c23:=L.tl.tl.b0.c43
 (try go_wp2_with fail)
 clear c00 f00 c01 f01 c10 f10 c11 f11 c12 f12 c13 f13 c20 c21 c22 c23
 obtain ⟨gx, hgx⟩ : ∃ gx, w1.heap.size = gx:=⟨_, rfl⟩
 replace L:=L.drew
 rw [hgx] at L hl9 ⊢
 clear hgx
 have n1 : w.heap.size + 1 ≠ gx:=by omega
 replace L:=L.swap
 have c00:=L.b0.c40
 have f00:=L.b0.fr 0
 have c01:=L.b0.c41
 have f01:=L.b0.fr 1
 have c02:=L.b0.c42
 have f02:=L.b0.fr 2
 have c03:=L.b0.c43
 have f03:=L.b0.fr 3
 have c10:=L.tl.b0.c20
 have f10:=L.tl.b0.fr 0
 have c11:=L.tl.b0.c21
 have f11:=L.tl.b0.fr 1
 have c20:=L.tl.tl.b0.c40
 have c21:=L.tl.tl.b0.c41
 have c22:=L.tl.tl.b0.c42
 have c23:=L.tl.tl.b0.c43
 go_region_held3 (fun w' => w'.cell? ⟨w.heap.size, 0, none⟩ = some (.bool (ng a)) ∧ w'.cell? ⟨w.heap.size, 1, none⟩ = some (.slice A (zl a) c) ∧ w'.cell? ⟨w.heap.size, 2, none⟩ = some (.bool (ng b)) ∧ w'.cell? ⟨w.heap.size, 3, none⟩ = some (.slice B (zl b) d) ∧ w'.cell? ⟨gx, 0, none⟩ = some (.bool (ng n)) ∧ w'.cell? ⟨gx, 1, none⟩ = some (.slice A7 (zl n) c7)) (first | (with_reducible exact ⟨L.tl.tl.b0.c40, L.tl.tl.b0.c41, L.tl.tl.b0.c42, L.tl.tl.b0.c43, L.tl.b0.c20, L.tl.b0.c21⟩) | (have LP:=L.putS (by omega) (by first | (simp; done) | (simp; omega)) (ng x) A8 (zl x) c8 (ng y) A9 (zl y) c9; unfold put4 at LP; with_reducible exact ⟨LP.tl.tl.b0.c40, LP.tl.tl.b0.c41, LP.tl.tl.b0.c42, LP.tl.tl.b0.c43, LP.tl.b0.c20, LP.tl.b0.c21⟩) | exact ⟨L.tl.tl.b0.c40, L.tl.tl.b0.c41, L.tl.tl.b0.c42, L.tl.tl.b0.c43, L.tl.b0.c20, L.tl.b0.c21⟩) (first | (go_at_call 84; (with_reducible refine (H1.out _ _ _ ?_ ?_ ).mono ?_); (· (refine isZ_s (L.getN ?_); (repeat (first | (with_reducible exact List.mem_cons_self) | apply List.mem_cons_of_mem)))); (· (refine isZ_s (L.getN ?_); (repeat (first | (with_reducible exact List.mem_cons_self) | apply List.mem_cons_of_mem)))); rintro e wh ⟨vh, rfl, iz, be⟩; obtain ⟨A8, c8, rfl, in9⟩:=iz.form; replace L:=(L.step be).n in9; clear be iz in9; (try (have x00:=L.b0.c40; have y00:=L.b0.fr 0; have x01:=L.b0.c41; have y01:=L.b0.fr 1; have x02:=L.b0.c42; have y02:=L.b0.fr 2; have x03:=L.b0.c43; have y03:=L.b0.fr 3))) | (go_at_call 84; (with_reducible refine (H2.out _ _ _ ?_ ?_ ).mono ?_); (· (refine isZ_s (L.getN ?_); (repeat (first | (with_reducible exact List.mem_cons_self) | apply List.mem_cons_of_mem)))); (· (refine isZ_s (L.getN ?_); (repeat (first | (with_reducible exact List.mem_cons_self) | apply List.mem_cons_of_mem)))); rintro e wh ⟨vh, rfl, iz, be⟩; obtain ⟨A9, c9, rfl, in9⟩:=iz.form; replace L:=(L.step be).n in9; clear be iz in9; (try (have x00:=L.b0.c40; have y00:=L.b0.fr 0; have x01:=L.b0.c41; have y01:=L.b0.fr 1; have x02:=L.b0.c42; have y02:=L.b0.fr 2; have x03:=L.b0.c43; have y03:=L.b0.fr 3))))
 clear c00 f00 c01 f01 c02 f02 c03 f03 c10 f10 c11 f11 c20 c21 c22 c23
 go_wp2_with fail
 have LP:=L.putS (by omega) (by first | (simp; done) | (simp; omega)) (ng x) A8 (zl x) c8 (ng y) A9 (zl y) c9
 have k0:=LP.b0.c40
 have k1:=LP.b0.c41
 have k2:=LP.b0.c42
 have k3:=LP.b0.c43
 unfold put4 at k0 k1 k2 k3
 exact bodyPost_ret (v:=.agg #[.bool (ng x), .slice A8 (zl x) c8, .bool (ng y), .slice A9 (zl y) c9]) (by simp [results, Tryz.results44, go_sem, k0, k1, k2, k3]) rfl ⟨_, rfl, isS_n (LP.getN (by simp)) (LP.getN (by simp)), LP.below⟩
set_option maxHeartbeats 8000000 in
theorem s13wide_any (a b n : Int) (vx : Value) (w : World) (hx : IsS w vx a b) (la : zl a ≤ 10000) (lb : zl b ≤ 10000) (h1 : -1000 ≤ n) (h2 : n ≤ 1000) :
  Calls Tryz.prog 69 #[vx, .int .i64 n] w (RetSp w (a - n) (b + n)):=by
 obtain ⟨A, c, B, d, rfl, hn1, hn2⟩:=hx.form
 have L0:=((Lq.mk0 w).n hn2).n hn1
 have h3:=len_le1 (x:=n.natAbs) (by omega)
 have g0:=fun W => rzof_any n W (by omega) (by omega)
 have g1:=fun v u W h k => rzsub_any a n v u W h k (by omega) (show zl n ≤ 274877906944 from Nat.le_trans h3 (by omega))
 have g2:=fun v u W h k => rzadd_any b n v u W h k (by omega) (show zl n ≤ 274877906944 from Nat.le_trans h3 (by omega))
 obtain ⟨x, hx⟩ : ∃ z, a - n = z:=⟨_, rfl⟩
 obtain ⟨y, hy⟩ : ∃ z, b + n = z:=⟨_, rfl⟩
 rw [hx] at g1 ⊢
 rw [hy] at g2 ⊢
 have H0:=Lib.hid g0
 have H1:=Lib.hid g1
 have H2:=Lib.hid g2
 clear g0 g1 g2 hx hy h3 hn1 hn2 la lb
 go_enter Tryz.func69, Tryz.ntmps69
 go_wp2_with fail
 have L:=((L0.varS (w.heap.size) (by simp) (ng a) A (zl a) c (ng b) B (zl b) d).varS (w.heap.size + 1) (by simp) false none 0 0 false none 0 0)
 replace L:=L.drew
 have c00:=L.b0.c40
 have f00:=L.b0.fr 0
 have c01:=L.b0.c41
 have f01:=L.b0.fr 1
 have c02:=L.b0.c42
 have f02:=L.b0.fr 2
 have c03:=L.b0.c43
 have f03:=L.b0.fr 3
 have c10:=L.tl.b0.c40
 have c11:=L.tl.b0.c41
 have c12:=L.tl.b0.c42
 have c13:=L.tl.b0.c43
 go_region_held3 (fun w' => w'.cell? ⟨w.heap.size, 0, none⟩ = some (.bool (ng a)) ∧ w'.cell? ⟨w.heap.size, 1, none⟩ = some (.slice A (zl a) c) ∧ w'.cell? ⟨w.heap.size, 2, none⟩ = some (.bool (ng b)) ∧ w'.cell? ⟨w.heap.size, 3, none⟩ = some (.slice B (zl b) d)) (first | (with_reducible exact ⟨L.tl.b0.c40, L.tl.b0.c41, L.tl.b0.c42, L.tl.b0.c43⟩) | (have LP:=L.putS (by omega) (by first | (simp; done) | (simp; omega)) (ng x) A8 (zl x) c8 (ng y) A9 (zl y) c9; unfold put4 at LP; with_reducible exact ⟨LP.tl.b0.c40, LP.tl.b0.c41, LP.tl.b0.c42, LP.tl.b0.c43⟩) | exact ⟨L.tl.b0.c40, L.tl.b0.c41, L.tl.b0.c42, L.tl.b0.c43⟩) (first | (go_at_call 53; (with_reducible refine (H0.out _ ).mono ?_); rintro e wh ⟨vh, rfl, iz, be⟩; obtain ⟨A7, c7, rfl, in9⟩:=iz.form; replace L:=(L.step be).n in9; clear be iz in9; (try (have x00:=L.b0.c40; have y00:=L.b0.fr 0; have x01:=L.b0.c41; have y01:=L.b0.fr 1; have x02:=L.b0.c42; have y02:=L.b0.fr 2; have x03:=L.b0.c43; have y03:=L.b0.fr 3))) | (go_at_call 123; (with_reducible refine (H1.out _ _ _ ?_ ?_ ).mono ?_); (· (refine isZ_s (L.getN ?_); (repeat (first | (with_reducible exact List.mem_cons_self) | apply List.mem_cons_of_mem)))); (· (refine isZ_s (L.getN ?_); (repeat (first | (with_reducible exact List.mem_cons_self) | apply List.mem_cons_of_mem)))); rintro e wh ⟨vh, rfl, iz, be⟩; obtain ⟨A8, c8, rfl, in9⟩:=iz.form; replace L:=(L.step be).n in9; clear be iz in9; (try (have x00:=L.b0.c40; have y00:=L.b0.fr 0; have x01:=L.b0.c41; have y01:=L.b0.fr 1; have x02:=L.b0.c42; have y02:=L.b0.fr 2; have x03:=L.b0.c43; have y03:=L.b0.fr 3))) | (go_at_call 76; (with_reducible refine (H2.out _ _ _ ?_ ?_ ).mono ?_); (· (refine isZ_s (L.getN ?_); (repeat (first | (with_reducible exact List.mem_cons_self) | apply List.mem_cons_of_mem)))); (· (refine isZ_s (L.getN ?_); (repeat (first | (with_reducible exact List.mem_cons_self) | apply List.mem_cons_of_mem)))); rintro e wh ⟨vh, rfl, iz, be⟩; obtain ⟨A9, c9, rfl, in9⟩:=iz.form; replace L:=(L.step be).n in9; clear be iz in9; (try (have x00:=L.b0.c40; have y00:=L.b0.fr 0; have x01:=L.b0.c41; have y01:=L.b0.fr 1; have x02:=L.b0.c42; have y02:=L.b0.fr 2; have x03:=L.b0.c43; have y03:=L.b0.fr 3))))
 clear c00 f00 c01 f01 c02 f02 c03 f03 c10 c11 c12 c13
 go_wp2_with fail
 have LP:=L.putS (by omega) (by first | (simp; done) | (simp; omega)) (ng x) A8 (zl x) c8 (ng y) A9 (zl y) c9
 have k0:=LP.b0.c40
 have k1:=LP.b0.c41
 have k2:=LP.b0.c42
 have k3:=LP.b0.c43
 unfold put4 at k0 k1 k2 k3
 exact bodyPost_ret (v:=.agg #[.bool (ng x), .slice A8 (zl x) c8, .bool (ng y), .slice A9 (zl y) c9]) (by simp [results, Tryz.results69, go_sem, k0, k1, k2, k3]) rfl ⟨_, rfl, isS_n (LP.getN (by simp)) (LP.getN (by simp)), LP.below⟩
set_option maxHeartbeats 8000000 in
theorem s13tiny_any (a b : Int) (vx : Value) (w : World) (hx : IsS w vx a b) (la : zl a ≤ 10000) (lb : zl b ≤ 10000) :
  Calls Tryz.prog 66 #[vx] w (RetB w (tnB a b)):=by
 obtain ⟨A, c, B, d, rfl, hn1, hn2⟩:=hx.form
 have L0:=((Lq.mk0 w).n hn2).n hn1
 have e1 : decide (a.natAbs ≤ 1) = decide (cmpI (a.natAbs : Int) ((1 : Nat) : Int) ≤ 0):=by
  rw [decide_eq_decide, cmpI_le]
  omega
 have e2 : decide (b.natAbs ≤ 1) = decide (cmpI (b.natAbs : Int) ((1 : Nat) : Int) ≤ 0):=by
  rw [decide_eq_decide, cmpI_le]
  omega
 have g0:=fun W => rof_any 1 W (by omega)
 have g1:=fun v u W h k => rcmpB_any a.natAbs 1 v u W h k
 have g2:=fun v u W h k => rcmpB_any b.natAbs 1 v u W h k
 unfold tnB
 rw [e1, e2]
 obtain ⟨x, hx⟩ : ∃ z, cmpI (a.natAbs : Int) ((1 : Nat) : Int) = z:=⟨_, rfl⟩
 obtain ⟨y, hy⟩ : ∃ z, cmpI (b.natAbs : Int) ((1 : Nat) : Int) = z:=⟨_, rfl⟩
 rw [hx] at g1 ⊢
 rw [hy] at g2 ⊢
 have H0:=Lib.hid g0
 have H1:=Lib.hid g1
 have H2:=Lib.hid g2
 clear g0 g1 g2 hx hy e1 e2 hn1 hn2 la lb
 cases t1 : decide (x ≤ 0)
 ·have n1 : ¬ x ≤ 0:=of_decide_eq_false t1
  rw [Bool.false_and]
  go_enter Tryz.func66, Tryz.ntmps66
  go_wp2_with fail
  have L:=(L0.varS (w.heap.size) (by simp) (ng a) A (zl a) c (ng b) B (zl b) d)
  have c00:=L.b0.c40
  have c01:=L.b0.c41
  have c02:=L.b0.c42
  have c03:=L.b0.c43
  (try go_wp2_with fail)
  refine (H0.out _).mono ?_
  rintro e w1 ⟨vv, rfl, o⟩
  clear c00 c01 c02 c03
  replace L:=(L.step o.below).n o.isN
  clear o
  have c00:=L.b0.c40
  have c01:=L.b0.c41
  have c02:=L.b0.c42
  have c03:=L.b0.c43
  (try go_wp2_with fail)
  refine (H1.out _ _ _ (L.getN (by simp)) (L.getN (by simp))).mono ?_
  rintro e w2 ⟨rfl, be⟩
  clear c00 c01 c02 c03
  replace L:=L.step be
  clear be
  have c00:=L.b0.c40
  have c01:=L.b0.c41
  have c02:=L.b0.c42
  have c03:=L.b0.c43
  (try go_wp2_with fail)
  go_ret
  exact ⟨rfl, L.below⟩
 ·have n1 : x ≤ 0:=of_decide_eq_true t1
  rw [Bool.true_and]
  obtain ⟨z, hz⟩ : ∃ z, decide (y ≤ 0) = z:=⟨_, rfl⟩
  rw [hz]
  go_enter Tryz.func66, Tryz.ntmps66
  go_wp2_with fail
  have L:=(L0.varS (w.heap.size) (by simp) (ng a) A (zl a) c (ng b) B (zl b) d)
  have c00:=L.b0.c40
  have c01:=L.b0.c41
  have c02:=L.b0.c42
  have c03:=L.b0.c43
  (try go_wp2_with fail)
  refine (H0.out _).mono ?_
  rintro e w1 ⟨vv, rfl, o⟩
  clear c00 c01 c02 c03
  replace L:=(L.step o.below).n o.isN
  clear o
  have c00:=L.b0.c40
  have c01:=L.b0.c41
  have c02:=L.b0.c42
  have c03:=L.b0.c43
  (try go_wp2_with fail)
  refine (H1.out _ _ _ (L.getN (by simp)) (L.getN (by simp))).mono ?_
  rintro e w2 ⟨rfl, be⟩
  clear c00 c01 c02 c03
  replace L:=L.step be
  clear be
  have c00:=L.b0.c40
  have c01:=L.b0.c41
  have c02:=L.b0.c42
  have c03:=L.b0.c43
  (try go_wp2_with fail)
  refine (H2.out _ _ _ (L.getN (by simp)) (L.getN (by simp))).mono ?_
  rintro e w3 ⟨rfl, be⟩
  clear c00 c01 c02 c03
  replace L:=L.step be
  clear be
  (try go_wp2_with fail)
  go_ret
  exact ⟨rfl, L.below⟩

set_option maxHeartbeats 8000000 in
theorem s13out_any (a b : Int) (v k j : Nat) (vx : Value) (w : World) (hx : IsS w vx a b) (la : zl a ≤ 10000) (lb : zl b ≤ 10000) (hk : k ≤ 10000) (hj : v = k + j) (hj2 : j ≤ 10000) :
  Calls Tryz.prog 48 #[vx, .int .i64 (v : Int), .int .i64 (k : Int)] w (RetI6 w (mkM (a / 2 ^ j) (-(k : Int))) (mkE (a / 2 ^ j) (-(k : Int))) (mkM (cdv b (2 ^ j)) (-(k : Int))) (mkE (cdv b (2 ^ j)) (-(k : Int)))):=by
 obtain ⟨A, c, B, d, rfl, hn1, hn2⟩:=hx.form
 have L0:=((Lq.mk0 w).n hn2).n hn1
 have w1 : IntKind.i64.wrap ((v : Int) - (k : Int)) = (j : Int):=by rw [IntKind.wrap_i64]; omega
 have w2 : IntKind.i64.wrap (-(k : Int)) = -(k : Int):=by rw [IntKind.wrap_i64]; omega
 have p2:=pow2_pos j
 have z1:=zl_floor a p2
 have z2:=zl_floor (-b) p2
 have z3:=zl_neg b
 unfold cdv
 have g1:=fun x W h => rzshr_any a x W h (by omega) j (by omega)
 have g2:=fun x W h => rmake8_any (a / 2 ^ j) (-(k : Int)) x W h (by omega)
 have g3:=fun x W h => rzneg_any b x W h (by omega)
 have g4:=fun x W h => rzshr_any (-b) x W h (by omega) j (by omega)
 have g5:=fun x W h => rzneg_any (-b / 2 ^ j) x W h (by omega)
 have z4:=zl_neg (-b / 2 ^ j)
 have g6:=fun x W h => rmake8_any (-(-b / 2 ^ j)) (-(k : Int)) x W h (by omega)
 obtain ⟨p, hp⟩ : ∃ z, a / 2 ^ j = z:=⟨_, rfl⟩
 rw [hp] at g1 g2 ⊢
 obtain ⟨q, hq⟩ : ∃ z, -b = z:=⟨_, rfl⟩
 rw [hq] at g3 g4 g5 g6 ⊢
 obtain ⟨r, hr⟩ : ∃ z, q / 2 ^ j = z:=⟨_, rfl⟩
 rw [hr] at g4 g5 g6 ⊢
 obtain ⟨s, hs⟩ : ∃ z, -r = z:=⟨_, rfl⟩
 rw [hs] at g5 g6 ⊢
 generalize mkR p (-(k : Int)) = R at *
 generalize mkR s (-(k : Int)) = R2 at *
 obtain ⟨M, hM⟩ : ∃ z, mkM p (-(k : Int)) = z:=⟨_, rfl⟩
 rw [hM] at g2 ⊢
 obtain ⟨E, hE⟩ : ∃ z, mkE p (-(k : Int)) = z:=⟨_, rfl⟩
 rw [hE] at g2 ⊢
 obtain ⟨M2, hM2⟩ : ∃ z, mkM s (-(k : Int)) = z:=⟨_, rfl⟩
 rw [hM2] at g6 ⊢
 obtain ⟨E2, hE2⟩ : ∃ z, mkE s (-(k : Int)) = z:=⟨_, rfl⟩
 rw [hE2] at g6 ⊢
 have G1:=Lib.hid g1
 have G2:=Lib.hid g2
 have G3:=Lib.hid g3
 have G4:=Lib.hid g4
 have G5:=Lib.hid g5
 have G6:=Lib.hid g6
 clear g1 g2 g3 g4 g5 g6 z1 z2 z3 z4 p2 hp hq hr hs hM hE hM2 hE2 hn1 hn2 hj la lb
 go_enter Tryz.func48, Tryz.ntmps48
 go_wp2_with fail
 have L:=((L0.varS (w.heap.size) (by simp) (ng a) A (zl a) c (ng b) B (zl b) d).varI (w.heap.size + 1) (by simp) false none 0 0 0 false none 0 0 0)
 have c10:=L.tl.b0.c40
 have c11:=L.tl.b0.c41
 have c12:=L.tl.b0.c42
 have c13:=L.tl.b0.c43
 (try go_wp2_with fail)
 refine (G1.out _ _ (isZ_s (z:=a) (s:=.slice A (zl a) c) (L.getN (by simp)))).mono ?_
 rintro e w1 ⟨vv, rfl, iz, be⟩
 clear c10 c11 c12 c13
 obtain ⟨A1, c1, rfl, in9⟩:=iz.form
 replace L:=(L.step be).n in9
 clear be iz in9
 go_wp2_with fail
 refine (G2.out _ _ (isZ_s (z:=p) (s:=.slice A1 (zl p) c1) (L.getN (by simp)))).mono ?_
 rintro e w2 ⟨vv, rfl, id, be⟩
 obtain ⟨A2, c2, rfl, _, in9⟩:=id.form
 replace L:=(L.step be).n in9
 clear be id in9
 have hl0:=L.b0.lt
 replace L:=L.varD w2.heap.size rfl (ng M) A2 (zl M) c2 E
 have c00:=L.b0.c30
 have c01:=L.b0.c31
 have c02:=L.b0.c32
 have c20:=L.tl.tl.b0.c40
 have c21:=L.tl.tl.b0.c41
 have c22:=L.tl.tl.b0.c42
 have c23:=L.tl.tl.b0.c43
 go_wp2_with fail
 clear c00 c01 c02 c20 c21 c22 c23
 obtain ⟨g1, hg1⟩ : ∃ g9, w2.heap.size = g9:=⟨_, rfl⟩
 rw [hg1] at L hl0 ⊢
 clear hg1
 refine (G3.out _ _ (isZ_s (z:=b) (s:=.slice B (zl b) d) (L.getN (by simp)))).mono ?_
 rintro e w3 ⟨vv, rfl, iz, be⟩
 obtain ⟨A3, c3, rfl, in9⟩:=iz.form
 replace L:=(L.step be).n in9
 clear be iz in9
 go_wp2_with fail
 refine (G4.out _ _ (isZ_s (z:=q) (s:=.slice A3 (zl q) c3) (L.getN (by simp)))).mono ?_
 rintro e w4 ⟨vv, rfl, iz, be⟩
 obtain ⟨A4, c4, rfl, in9⟩:=iz.form
 replace L:=(L.step be).n in9
 clear be iz in9
 go_wp2_with fail
 refine (G5.out _ _ (isZ_s (z:=r) (s:=.slice A4 (zl r) c4) (L.getN (by simp)))).mono ?_
 rintro e w5 ⟨vv, rfl, iz, be⟩
 obtain ⟨A5, c5, rfl, in9⟩:=iz.form
 replace L:=(L.step be).n in9
 clear be iz in9
 go_wp2_with fail
 refine (G6.out _ _ (isZ_s (z:=s) (s:=.slice A5 (zl s) c5) (L.getN (by simp)))).mono ?_
 rintro e w6 ⟨vv, rfl, id, be⟩
 obtain ⟨A6, c6, rfl, _, in9⟩:=id.form
 replace L:=((L.step be).n in9).swap
 clear be id in9
 have hlr:=L.b0.lt
 have hls:=L.tl.b0.lt
 have c00:=L.b0.c60
 have f00:=L.b0.fr 0
 have c01:=L.b0.c61
 have f01:=L.b0.fr 1
 have c02:=L.b0.c62
 have f02:=L.b0.fr 2
 have c03:=L.b0.c63
 have f03:=L.b0.fr 3
 have c04:=L.b0.c64
 have f04:=L.b0.fr 4
 have c05:=L.b0.c65
 have f05:=L.b0.fr 5
 have LN:=L.varD w6.heap.size rfl (ng M2) A6 (zl M2) c6 E2
 have n0:=LN.b0.c30
 have m0:=LN.tl.tl.b0.c30
 have n1:=LN.b0.c31
 have m1:=LN.tl.tl.b0.c31
 have n2:=LN.b0.c32
 have m2:=LN.tl.tl.b0.c32
 go_wp2_with fail
 clear c00 f00 c01 f01 c02 f02 c03 f03 c04 f04 c05 f05
 have LP0:=L.putI (by omega) (by first | (simp; done) | (simp; omega)) (ng M) A2 (zl M) c2 E (ng M2) A6 (zl M2) c6 E2
 have LP:=LP0.varD _ rfl (ng M2) A6 (zl M2) c6 E2
 have k0:=LP.tl.b0.c60
 have k1:=LP.tl.b0.c61
 have k2:=LP.tl.b0.c62
 have k3:=LP.tl.b0.c63
 have k4:=LP.tl.b0.c64
 have k5:=LP.tl.b0.c65
 unfold put6 at k0 k1 k2 k3 k4 k5
 exact bodyPost_ret (v:=.agg #[.bool (ng M), .slice A2 (zl M) c2, .int .i64 E, .bool (ng M2), .slice A6 (zl M2) c6, .int .i64 E2]) (by simp [results, Tryz.results48, go_sem, k0, k1, k2, k3, k4, k5]) rfl ⟨_, rfl, isI_n (LP.getN (by simp)) (LP.getN (by simp)), LP.below⟩
set_option maxHeartbeats 8000000 in
theorem s13touches_any (m e n f m2 e2 n2 f2 : Int) (vx vy : Value) (w : World) (hx : IsI w vx m e n f) (hy : IsI w vy m2 e2 n2 f2) (lm : zl m ≤ 1000) (ln : zl n ≤ 1000) (lm2 : zl m2 ≤ 1000) (ln2 : zl n2 ≤ 1000) (he : -20000 ≤ e ∧ e ≤ 20000) (hf : -20000 ≤ f ∧ f ≤ 20000) (he2 : -20000 ≤ e2 ∧ e2 ≤ 20000) (hf2 : -20000 ≤ f2 ∧ f2 ≤ 20000) :
  Calls Tryz.prog 47 #[vx, vy] w (RetB w (icm m e n f m2 e2 n2 f2 == 0)):=by
 obtain ⟨A, c, B, d, rfl, hn1, hn2⟩:=hx.form
 obtain ⟨A2, k2, B2, d2, rfl, hn3, hn4⟩:=hy.form
 have L0:=((((Lq.mk0 w).n hn4).n hn3).n hn2).n hn1
 have h1:=fun v u W h1 h2 => r10cmp_any m e n f m2 e2 n2 f2 v u W h1 h2 (by omega) (by omega) (by omega) (by omega) (by omega) (by omega) (by omega) (by omega)
 obtain ⟨x, hx9⟩ : ∃ z, icm m e n f m2 e2 n2 f2 = z:=⟨_, rfl⟩
 rw [hx9] at h1 ⊢
 have H1:=Lib.hid h1
 clear h1 hx9 hn1 hn2 hn3 hn4 hx hy
 go_enter Tryz.func47, Tryz.ntmps47
 go_wp2_with fail
 have L:=((L0.varI (w.heap.size) (by simp) (ng m) A (zl m) c e (ng n) B (zl n) d f).varI (w.heap.size + 1) (by simp) (ng m2) A2 (zl m2) k2 e2 (ng n2) B2 (zl n2) d2 f2)
 have c00:=L.b0.c60
 have c01:=L.b0.c61
 have c02:=L.b0.c62
 have c03:=L.b0.c63
 have c04:=L.b0.c64
 have c05:=L.b0.c65
 have c10:=L.tl.b0.c60
 have c11:=L.tl.b0.c61
 have c12:=L.tl.b0.c62
 have c13:=L.tl.b0.c63
 have c14:=L.tl.b0.c64
 have c15:=L.tl.b0.c65
 clear c00 c01 c02 c03 c04 c05 c10 c11 c12 c13 c14 c15
 have c00:=L.b0.c60
 have c01:=L.b0.c61
 have c02:=L.b0.c62
 have c03:=L.b0.c63
 have c04:=L.b0.c64
 have c05:=L.b0.c65
 have c10:=L.tl.b0.c60
 have c11:=L.tl.b0.c61
 have c12:=L.tl.b0.c62
 have c13:=L.tl.b0.c63
 have c14:=L.tl.b0.c64
 have c15:=L.tl.b0.c65
 (try go_wp2_with fail)
 refine (H1.out _ _ _ (isI_n (L.getN (by simp)) (L.getN (by simp))) (isI_n (L.getN (by simp)) (L.getN (by simp)))).mono ?_
 rintro e w1 ⟨rfl, be⟩
 clear c00 c01 c02 c03 c04 c05 c10 c11 c12 c13 c14 c15
 replace L:=L.step be
 clear be
 (try go_wp2_with fail)
 (try go_ret)
 exact ⟨rfl, L.below⟩
theorem big_add {m e n k s t : Int} {j : Nat} (he : -(j : Int) ≤ e) (hk : -(j : Int) ≤ k) (hs : dq m e = dq s (-(j : Int))) (ht : dq n k = dq t (-(j : Int))) (hz : AbP (s + t) 60100) (hmin : min e k ≤ 4000) (hj : j ≤ 5000) :
  mkR (addS m e n k) (min e k) = 0 ∧ dq (mkM (addS m e n k) (min e k)) (mkE (addS m e n k) (min e k)) = dq (s + t) (-(j : Int)) ∧ zl (mkM (addS m e n k) (min e k)) ≤ 1900 ∧ (-5000 ≤ mkE (addS m e n k) (min e k) ∧ mkE (addS m e n k) (min e k) ≤ 70000):=by
 have h1:=dq_add m e n k
 rw [hs, ht, ← dq_addI] at h1
 obtain ⟨V, hV⟩ : ∃ V, addS m e n k = V:=⟨_, rfl⟩
 obtain ⟨r, hr⟩ : ∃ r : Nat, min e k + (j : Int) = (r : Int):=⟨(min e k + (j : Int)).toNat, by omega⟩
 rw [hV] at h1 ⊢
 have h2 : dq V (min e k) = dq (V * 2 ^ r) (-(j : Int)):=by
  refine dq_eq (F := -(j : Int)) ?_ (by omega) (by omega)
  rw [show (min e k - -(j : Int)).toNat = r by omega, show (-(j : Int) - -(j : Int)).toNat = 0 by omega]
  simp
 have h3 : V * 2 ^ r = s + t:=dq_inj (h2.symm.trans h1)
 have hV2 : AbP V 60100:=by
  unfold AbP at *
  rw [← h3, abs_shl] at hz
  exact Nat.le_trans (Nat.le_mul_of_pos_right _ (Nat.pow_pos (by omega))) hz
 have zv:=hV2.zl
 have hr0 : mkR V (min e k) = 0:=mk_fits2 (by omega) (by omega) (by omega)
 have z1:=zl_mk V (min e k)
 have z2:=mkE_at hr0 zv
 exact ⟨hr0, by rw [dq_mk hr0, h1], by omega, by omega⟩
def EpA (k : Nat) (a : Int) (x : Rat) : Prop:=0 ≤ a ∧ AbP a (k + 302) ∧ LoE (dq a (-(k : Int))) x ∧ UpE x (dq a (-(k : Int)) + 2 * dq 1 (-(k : Int)))
def EpB (k : Nat) (b : Int) (x : Rat) : Prop:=AbP b (k + 302) ∧ LoE (dq b (-(k : Int)) - 2 * dq 1 (-(k : Int))) x ∧ UpE x (dq b (-(k : Int)))
theorem mk_val11 {m e : Int} {z : Nat} {M : Int} (h : mkR m e = 0) (hm : m ≠ 0) (hz : tz m.natAbs = z) (ho : oddM m = M) : mkM m e = M ∧ mkE m e = e + (z : Int):=by
 unfold mkM mkE
 rw [h, if_pos rfl, if_neg hm, if_pos rfl, ho]
 refine ⟨rfl, ?_⟩
 unfold oddE
 rw [hz]
theorem small11 {m : Int} (h : m.natAbs < 4294967296) : zl m ≤ 1900:=Nat.le_trans (len_le1 h) (by omega)
theorem mk_odd11 {M : Int} {z : Nat} {m e : Int} (hm : M * 2 ^ z = m) (ho : M.natAbs % 2 = 1) (hs : m.natAbs < 4294967296) (h1 : -4000 ≤ e) (h2 : e ≤ 4000) : mkM m e = M ∧ mkE m e = e + (z : Int):=by
 have h:=mk_fits (m:=m) (e:=e) (small11 hs) h1 h2
 have hm0 : m ≠ 0:=by
  have hM : M ≠ 0:=fun h0 => by rw [h0] at ho; exact absurd ho (by decide)
  rw [← hm]
  exact Int.mul_ne_zero hM (pow2_ne z)
 have hz : tz m.natAbs = z:=by rw [← hm, abs_shl]; exact tz_odd ho z
 have ho2 : oddM m = M:=by rw [← hm]; exact odd_shl ho z
 exact mk_val11 h hm0 hz ho2
theorem mk_one (j : Nat) (hj : j ≤ 100) : mkM 1 (-(j : Int)) = 1 ∧ mkE 1 (-(j : Int)) = -(j : Int) ∧ mkR 1 (-(j : Int)) = 0:=by
 have h:=mk_odd11 (M:=1) (z:=0) (m:=1) (e := -(j : Int)) (by decide) (by decide) (by decide) (by omega) (by omega)
 exact ⟨h.1, by rw [h.2]; omega, mk_fits (small11 (by decide)) (by omega) (by omega)⟩
set_option maxHeartbeats 4000000 in
theorem of14_any (a b : Int) (w : World) (h1 : -4000 ≤ a ∧ a ≤ 4000) (h2 : -4000 ≤ b ∧ b ≤ 4000) :
  Calls Tryz.prog 49 #[.int .i64 a, .int .i64 b] w (RetI6 w (mkM a 0) (mkE a 0) (mkM b 0) (mkE b 0)):=by
 have HA:=Lib.hid (fun W => rof8_any a W (by omega) (by omega))
 have HB:=Lib.hid (fun W => rof8_any b W (by omega) (by omega))
 generalize mkM a 0 = m at *
 generalize mkE a 0 = e at *
 generalize mkM b 0 = n at *
 generalize mkE b 0 = f at *
 clear h1 h2
 go_enter Tryz.func49, Tryz.ntmps49
 go_wp2_with fail
 have L:=((Lq.mk0 w).varI (w.heap.size) (by simp) false none 0 0 0 false none 0 0 0)
 have c00:=L.b0.c60
 have f00:=L.b0.fr 0
 have c01:=L.b0.c61
 have f01:=L.b0.fr 1
 have c02:=L.b0.c62
 have f02:=L.b0.fr 2
 have c03:=L.b0.c63
 have f03:=L.b0.fr 3
 have c04:=L.b0.c64
 have f04:=L.b0.fr 4
 have c05:=L.b0.c65
 have f05:=L.b0.fr 5
 (try go_wp2_with fail)
 refine (HA.out _).mono ?_
 rintro e w1 ⟨v1, rfl, id, be⟩
 clear c00 f00 c01 f01 c02 f02 c03 f03 c04 f04 c05 f05
 obtain ⟨A, c, rfl, _, in9⟩:=id.form
 replace L:=(L.step be).n in9
 clear be id in9
 have c00:=L.b0.c60
 have f00:=L.b0.fr 0
 have c01:=L.b0.c61
 have f01:=L.b0.fr 1
 have c02:=L.b0.c62
 have f02:=L.b0.fr 2
 have c03:=L.b0.c63
 have f03:=L.b0.fr 3
 have c04:=L.b0.c64
 have f04:=L.b0.fr 4
 have c05:=L.b0.c65
 have f05:=L.b0.fr 5
 (try go_wp2_with fail)
 refine (HB.out _).mono ?_
 rintro e w2 ⟨v2, rfl, id, be⟩
 clear c00 f00 c01 f01 c02 f02 c03 f03 c04 f04 c05 f05
 obtain ⟨B, d, rfl, _, in9⟩:=id.form
 replace L:=(L.step be).n in9
 clear be id in9
 have c00:=L.b0.c60
 have f00:=L.b0.fr 0
 have c01:=L.b0.c61
 have f01:=L.b0.fr 1
 have c02:=L.b0.c62
 have f02:=L.b0.fr 2
 have c03:=L.b0.c63
 have f03:=L.b0.fr 3
 have c04:=L.b0.c64
 have f04:=L.b0.fr 4
 have c05:=L.b0.c65
 have f05:=L.b0.fr 5
 (try go_wp2_with fail)
 have LP:=L.putI (by omega) (by first | (simp; done) | (simp; omega)) (ng m) A (zl m) c e (ng n) B (zl n) d f
 have k0:=LP.b0.c60
 have k1:=LP.b0.c61
 have k2:=LP.b0.c62
 have k3:=LP.b0.c63
 have k4:=LP.b0.c64
 have k5:=LP.b0.c65
 unfold put6 at k0 k1 k2 k3 k4 k5
 exact bodyPost_ret (v:=.agg #[.bool (ng m), .slice A (zl m) c, .int .i64 e, .bool (ng n), .slice B (zl n) d, .int .i64 f]) (by simp [results, Tryz.results49, go_sem, k0, k1, k2, k3, k4, k5]) rfl ⟨_, rfl, isI_n (LP.getN (by simp)) (LP.getN (by simp)), LP.below⟩
theorem mk_one14 (j : Nat) (hj : j ≤ 100) : mkM 1 (-(j : Int)) = 1 ∧ mkE 1 (-(j : Int)) = -(j : Int) ∧ mkR 1 (-(j : Int)) = 0:=mk_one j hj
theorem RetEp.ab {w : World} {k : Nat} {m e n f : Int} {en : Ending} {w' : World} (h : RetEp w k m e n f en w') : ∃ a b : Int, EpA k a (dq m e) ∧ EpB k b (dq n f) ∧ RetIE w (mkM a (-(k : Int))) (mkE a (-(k : Int))) (mkM b (-(k : Int))) (mkE b (-(k : Int))) 0 en w':=by
 obtain ⟨a, b, h1, h2, h3⟩:=h
 exact ⟨a, b, h1, h2, h3⟩
theorem small14 {m e n f : Int} (lm : zl m ≤ 60) (ln : zl n ≤ 60) (he : -8000 ≤ e ∧ e ≤ 3000) (hf : -8000 ≤ f ∧ f ≤ 3000) (hle : dcm m e n f ≤ 0) (tm : topZ m e ≤ 2048) (tn : topZ n f ≤ 2048) : smallB m e n f = true:=by
 have p8 : permB 8192 = true:=by decide
 unfold smallB onB
 rw [p8, decide_eq_true hle, decide_eq_true tm, decide_eq_true tn, decide_eq_true (show -8192 ≤ e by omega), decide_eq_true (show -8192 ≤ f by omega)]
 simp


set_option maxHeartbeats 8000000 in
theorem i10out_yes (m e n f p : Int) (vx : Value) (w : World) (hx : IsI w vx m e n f) (lm : zl m ≤ 1000) (ln : zl n ≤ 1000) (he : -20000 ≤ e ∧ e ≤ 20000) (hf : -20000 ≤ f ∧ f ≤ 20000) (hp1 : -9223372036854775808 ≤ p) (hp2 : p ≤ 9223372036854775807) (hp : permB p = true) (r1 : mkR (cutQ (dq m e) p) (-p) = 0) (r2 : mkR (-(cutQ (-(dq n f)) p)) (-p) = 0) (hT : Tab w) :
  Calls Tryz.prog 63 #[vx, .int .i64 p] w (RetIE w (mkM (cutQ (dq m e) p) (-p)) (mkE (cutQ (dq m e) p) (-p)) (mkM (-(cutQ (-(dq n f)) p)) (-p)) (mkE (-(cutQ (-(dq n f)) p)) (-p)) 0):=by
 obtain ⟨A, c, B, d, rfl, hn1, hn2⟩:=hx.form
 have L0:=((Lq.mk0 w).n hn2).n hn1
 have h1:=fun v W h (hW : Below w.heap.size w W) => gfloor_any m e p v W h (by omega) (by omega) hp1 hp2 (hT.mono hW)
 have h2:=fun v W h (hW : Below w.heap.size w W) => gceil_any n f p v W h (by omega) (by omega) hp1 hp2 (hT.mono hW)
 rw [(g_yes hp (cutQ (dq m e) p)).1, (g_yes hp (cutQ (dq m e) p)).2.1, (g_yes hp (cutQ (dq m e) p)).2.2] at h1
 rw [(g_yes hp (-(cutQ (-(dq n f)) p))).1, (g_yes hp (-(cutQ (-(dq n f)) p))).2.1, (g_yes hp (-(cutQ (-(dq n f)) p))).2.2] at h2
 rw [r1] at h1
 rw [r2] at h2
 generalize mkM (cutQ (dq m e) p) (-p) = M at *
 generalize mkE (cutQ (dq m e) p) (-p) = E at *
 generalize mkM (-(cutQ (-(dq n f)) p)) (-p) = N at *
 generalize mkE (-(cutQ (-(dq n f)) p)) (-p) = G at *
 have H1:=Lib.hid h1
 have H2:=Lib.hid h2
 clear h1 h2 hx hn1 hn2 lm ln he hf hp1 hp2 hp hT r1 r2
 go_enter Tryz.func63, Tryz.ntmps63
 go_wp2_with fail
 have L:=((L0.varI (w.heap.size) (by simp) (ng m) A (zl m) c e (ng n) B (zl n) d f).varI (w.heap.size + 1) (by simp) false none 0 0 0 false none 0 0 0)
 have c00:=L.b0.c60
 have f00:=L.b0.fr 0
 have c01:=L.b0.c61
 have f01:=L.b0.fr 1
 have c02:=L.b0.c62
 have f02:=L.b0.fr 2
 have c03:=L.b0.c63
 have f03:=L.b0.fr 3
 have c04:=L.b0.c64
 have f04:=L.b0.fr 4
 have c05:=L.b0.c65
 have f05:=L.b0.fr 5
 have c10:=L.tl.b0.c60
 have c11:=L.tl.b0.c61
 have c12:=L.tl.b0.c62
 have c13:=L.tl.b0.c63
 have c14:=L.tl.b0.c64
 have c15:=L.tl.b0.c65
 (try go_wp2_with fail)
 refine (H1.out _ _ (isD_n (m:=m) (e:=e) (s:=.slice A (zl m) c) (L.getN (v:=.slice A (zl m) c) (x:=(m).natAbs) (by simp))) L.below).mono ?_
 rintro e w1 ⟨vv, rfl, id, be⟩
 clear c00 f00 c01 f01 c02 f02 c03 f03 c04 f04 c05 f05 c10 c11 c12 c13 c14 c15
 obtain ⟨A8, c8, rfl, _, in9⟩:=id.form
 replace L:=(L.step be).n in9
 clear be id in9
 have hlg:=L.b0.lt
 replace L:=L.varD w1.heap.size rfl (ng M) A8 (zl M) c8 E
 have c00:=L.b0.c30
 have c01:=L.b0.c31
 have c02:=L.b0.c32
 have c20:=L.tl.tl.b0.c60
 have c21:=L.tl.tl.b0.c61
 have c22:=L.tl.tl.b0.c62
 have c23:=L.tl.tl.b0.c63
 have c24:=L.tl.tl.b0.c64
 have c25:=L.tl.tl.b0.c65
 go_wp2_with fail
 obtain ⟨g, hg⟩ : ∃ g, w1.heap.size = g:=⟨_, rfl⟩
 rw [hg] at L hlg c00 c01 c02 ⊢
 clear hg
 refine (H2.out _ _ (isD_n (m:=n) (e:=f) (s:=.slice B (zl n) d) (L.getN (v:=.slice B (zl n) d) (x:=(n).natAbs) (by simp))) L.below).mono ?_
 rintro e w2 ⟨vv, rfl, id, be⟩
 clear c00 c01 c02 c20 c21 c22 c23 c24 c25
 obtain ⟨A9, c9, rfl, _, in9⟩:=id.form
 replace L:=(L.step be).n in9
 clear be id in9
 have hlk9:=L.b0.lt
 replace L:=L.varD w2.heap.size rfl (ng N) A9 (zl N) c9 G
 have n1 : w.heap.size + 1 ≠ g:=by omega
 have n2 : w.heap.size + 1 ≠ w2.heap.size:=by omega
 replace L:=L.pull2
 have c00:=L.b0.c60
 have f00:=L.b0.fr 0
 have c01:=L.b0.c61
 have f01:=L.b0.fr 1
 have c02:=L.b0.c62
 have f02:=L.b0.fr 2
 have c03:=L.b0.c63
 have f03:=L.b0.fr 3
 have c04:=L.b0.c64
 have f04:=L.b0.fr 4
 have c05:=L.b0.c65
 have f05:=L.b0.fr 5
 have c10:=L.tl.b0.c30
 have c11:=L.tl.b0.c31
 have c12:=L.tl.b0.c32
 have c20:=L.tl.tl.b0.c30
 have c21:=L.tl.tl.b0.c31
 have c22:=L.tl.tl.b0.c32
 go_wp2_with fail
 have LP:=L.putI (by omega) (by simp [n1, n2, Ne.symm n1, Ne.symm n2]) (ng M) A8 (zl M) c8 E (ng N) A9 (zl N) c9 G
 have k0:=LP.b0.c60
 have k1:=LP.b0.c61
 have k2:=LP.b0.c62
 have k3:=LP.b0.c63
 have k4:=LP.b0.c64
 have k5:=LP.b0.c65
 unfold put6 at k0 k1 k2 k3 k4 k5
 exact bodyPost_ret (v:=.tuple #[.agg #[.bool (ng M), .slice A8 (zl M) c8, .int .i64 E, .bool (ng N), .slice A9 (zl N) c9, .int .i64 G], .int .i64 0]) (by simp [results, Tryz.results63, go_sem, k0, k1, k2, k3, k4, k5]) rfl ⟨_, rfl, isI_n (LP.getN (by simp)) (LP.getN (by simp)), LP.below⟩

set_option maxHeartbeats 8000000 in
theorem xexp_large (m e n f : Int) (k : Nat) (vx : Value) (w : World) (hx : IsI w vx m e n f) (lm : zl m ≤ 100) (ln : zl n ≤ 100) (he : -10000 ≤ e ∧ e ≤ 3000) (hf : -10000 ≤ f ∧ f ≤ 3000) (hv : Dv m e) (hv2 : Dv n f) (hsm : smallB m e n f = true) (hk : k ≤ 4096) (hl : ¬ dq n f ≤ 1000) (hT : Tab w) :
  Calls Tryz.prog 14 #[vx, .int .i64 (k : Int)] w (RetIE w 0 0 0 0 3):=by
 obtain ⟨A, c, B, d, rfl, hn1, hn2⟩:=hx.form
 have L0:=((Lq.mk0 w).n hn2).n hn1
 have HP0:=fun W => xperm_any (k : Int) 0 W
 have hok : okX (k : Int) 0 = true:=by
  unfold okX
  rw [decide_eq_true (show (0 : Int) ≤ (k : Int) by omega), decide_eq_true (show (k : Int) ≤ 4096 by omega)]
  rfl
 rw [hok] at HP0
 have HP:=Lib.hid HP0
 have HT:=Lib.hid (fun W (hW : Below w.heap.size w W) => hT.mono hW)
 have g1:=fun x W h => asmall_any m e n f x W h (by omega) (by omega) (by omega) (by omega) hv hv2
 rw [hsm] at g1
 have hb10 : AbP 1000 12:=by unfold AbP; decide
 obtain ⟨z1, z2, z3, z4, z5, z6⟩:=nf hb10 (by omega)
 rw [dq_int] at z6
 have g2:=fun W (hW : Below w.heap.size w W) => dof_any 1000 W (by omega) (by omega) (hT.mono hW)
 have g3:=fun x y W h j => dcmp_any n f (mkM 1000 0) (mkE 1000 0) x y W h j (by omega) (by omega) (by omega) (by omega)
 have hle:=dcm_le n f (mkM 1000 0) (mkE 1000 0)
 rw [z6] at hle
 rw [show cmpI (n * 2 ^ (f - min f (mkE 1000 0)).toNat) (mkM 1000 0 * 2 ^ (mkE 1000 0 - min f (mkE 1000 0)).toNat) = dcm n f (mkM 1000 0) (mkE 1000 0) from rfl] at g3
 generalize dcm n f (mkM 1000 0) (mkE 1000 0) = cm at *
 generalize mkM 1000 0 = Mb at *
 generalize mkE 1000 0 = Eb at *
 have G1:=Lib.hid g1
 have G2:=Lib.hid g2
 have G3:=Lib.hid g3
 clear g1 g2 g3 z1 z2 z3 z4 z5 z6 hb10 hx HP0 hok
 have hcm : 0 < cm:=by
  refine Int.not_le.1 fun h => hl (hle.1 h)
 have d1 : decide (0 < cm) = true:=decide_eq_true hcm
 clear hle hl hv hv2 lm ln he hf hsm hk
 go_enter Tryz.func14, Tryz.ntmps14
 have L:=((L0.varI (w.heap.size) (by simp) (ng m) A (zl m) c e (ng n) B (zl n) d f).varI (w.heap.size + 1) (by simp) false none 0 0 0 false none 0 0 0)
 have c00:=L.b0.c60
 have f00:=L.b0.fr 0
 have c01:=L.b0.c61
 have f01:=L.b0.fr 1
 have c02:=L.b0.c62
 have f02:=L.b0.fr 2
 have c03:=L.b0.c63
 have f03:=L.b0.fr 3
 have c04:=L.b0.c64
 have f04:=L.b0.fr 4
 have c05:=L.b0.c65
 have f05:=L.b0.fr 5
 (try go_wp2_with fail)
 refine (HP.out _).mono ?_
 rintro e9 w' ⟨rfl, rfl⟩
 (try go_wp2_with fail)
 replace L:=L.drew
 clear c00 f00 c01 f01 c02 f02 c03 f03 c04 f04 c05 f05
 have c10:=L.tl.b0.c60
 have c11:=L.tl.b0.c61
 have c12:=L.tl.b0.c62
 have c13:=L.tl.b0.c63
 have c14:=L.tl.b0.c64
 have c15:=L.tl.b0.c65
 go_region_held3 (fun w' => w'.cell? ⟨w.heap.size, 0, none⟩ = some (.bool (ng m)) ∧ w'.cell? ⟨w.heap.size, 1, none⟩ = some (.slice A (zl m) c) ∧ w'.cell? ⟨w.heap.size, 2, none⟩ = some (.int .i64 e) ∧ w'.cell? ⟨w.heap.size, 3, none⟩ = some (.bool (ng n)) ∧ w'.cell? ⟨w.heap.size, 4, none⟩ = some (.slice B (zl n) d) ∧ w'.cell? ⟨w.heap.size, 5, none⟩ = some (.int .i64 f)) (first | (with_reducible exact ⟨L.tl.b0.c60, L.tl.b0.c61, L.tl.b0.c62, L.tl.b0.c63, L.tl.b0.c64, L.tl.b0.c65⟩) | exact ⟨L.tl.b0.c60, L.tl.b0.c61, L.tl.b0.c62, L.tl.b0.c63, L.tl.b0.c64, L.tl.b0.c65⟩) (first | (go_at_call 55; (with_reducible refine (G1.out _ _ ?_ ).mono ?_); (· (refine isI_n (L.getN ?_) (L.getN ?_); all_goals (repeat (first | (with_reducible exact List.mem_cons_self) | apply List.mem_cons_of_mem)))); rintro e wh ⟨rfl, be⟩; replace L:=L.step be; clear be) | (go_at_call 57; (with_reducible refine (G2.out _ ?_ ).mono ?_); (· exact L.below); rintro e wh ⟨vh, rfl, id, be⟩; obtain ⟨A1, c1, rfl, _, in9⟩:=id.form; replace L:=(L.step be).n in9; clear be id in9) | (go_at_call 56; (with_reducible refine (G3.out _ _ _ ?_ ?_ ).mono ?_); (· (refine isD_n (L.getN ?_); (repeat (first | (with_reducible exact List.mem_cons_self) | apply List.mem_cons_of_mem)))); (· (refine isD_n (L.getN ?_); (repeat (first | (with_reducible exact List.mem_cons_self) | apply List.mem_cons_of_mem)))); rintro e wh ⟨rfl, be⟩; replace L:=L.step be; clear be))
 clear c10 c11 c12 c13 c14 c15
 have c00:=L.b0.c60
 have f00:=L.b0.fr 0
 have c01:=L.b0.c61
 have f01:=L.b0.fr 1
 have c02:=L.b0.c62
 have f02:=L.b0.fr 2
 have c03:=L.b0.c63
 have f03:=L.b0.fr 3
 have c04:=L.b0.c64
 have f04:=L.b0.fr 4
 have c05:=L.b0.c65
 have f05:=L.b0.fr 5
 go_wp2_with fail
 clear c00 f00 c01 f01 c02 f02 c03 f03 c04 f04 c05 f05
 have LP:=L.putI (by omega) (by first | (simp; done) | (simp; omega)) false none 0 0 0 false none 0 0 0
 have k0:=LP.b0.c60
 have k1:=LP.b0.c61
 have k2:=LP.b0.c62
 have k3:=LP.b0.c63
 have k4:=LP.b0.c64
 have k5:=LP.b0.c65
 unfold put6 at k0 k1 k2 k3 k4 k5
 exact bodyPost_ret (v:=.tuple #[.agg #[.bool false, .slice none 0 0, .int .i64 0, .bool false, .slice none 0 0, .int .i64 0], .int .i64 3]) (by simp [results, Tryz.results14, go_sem, k0, k1, k2, k3, k4, k5]) rfl ⟨_, rfl, isI_zero _, LP.below⟩
set_option maxHeartbeats 16000000 in
theorem xexp_yes (m e n f : Int) (k : Nat) (vx : Value) (w : World) (hx : IsI w vx m e n f) (lm : zl m ≤ 100) (ln : zl n ≤ 100) (he : -10000 ≤ e ∧ e ≤ 3000) (hf : -10000 ≤ f ∧ f ≤ 3000) (hv : Dv m e) (hv2 : Dv n f) (hsm : smallB m e n f = true) (hk : k ≤ 220) (hl : dq n f ≤ 200) (hT : Tab w) :
  Calls Tryz.prog 14 #[vx, .int .i64 (k : Int)] w (RetEp w k m e n f):=by
 obtain ⟨A, c, B, d, rfl, hn1, hn2⟩:=hx.form
 have L0:=((Lq.mk0 w).n hn2).n hn1
 have HP0:=fun W => xperm_any (k : Int) 0 W
 have hok : okX (k : Int) 0 = true:=by
  unfold okX
  rw [decide_eq_true (show (0 : Int) ≤ (k : Int) by omega), decide_eq_true (show (k : Int) ≤ 4096 by omega)]
  rfl
 rw [hok] at HP0
 have HP:=Lib.hid HP0
 have HT:=Lib.hid (fun W (hW : Below w.heap.size w W) => hT.mono hW)
 have g1:=fun x W h => asmall_any m e n f x W h (by omega) (by omega) (by omega) (by omega) hv hv2
 rw [hsm] at g1
 have hb10 : AbP 1000 12:=by unfold AbP; decide
 obtain ⟨z1, z2, z3, z4, z5, z6⟩:=nf hb10 (by omega)
 rw [dq_int] at z6
 have g2:=fun W (hW : Below w.heap.size w W) => dof_any 1000 W (by omega) (by omega) (hT.mono hW)
 have g3:=fun x y W h j => dcmp_any n f (mkM 1000 0) (mkE 1000 0) x y W h j (by omega) (by omega) (by omega) (by omega)
 have hle:=dcm_le n f (mkM 1000 0) (mkE 1000 0)
 rw [z6] at hle
 rw [show cmpI (n * 2 ^ (f - min f (mkE 1000 0)).toNat) (mkM 1000 0 * 2 ^ (mkE 1000 0 - min f (mkE 1000 0)).toNat) = dcm n f (mkM 1000 0) (mkE 1000 0) from rfl] at g3
 generalize dcm n f (mkM 1000 0) (mkE 1000 0) = cm at *
 generalize mkM 1000 0 = Mb at *
 generalize mkE 1000 0 = Eb at *
 have G1:=Lib.hid g1
 have G2:=Lib.hid g2
 have G3:=Lib.hid g3
 clear g1 g2 g3 z1 z2 z3 z4 z5 z6 hb10 hx HP0 hok
 have hcm : ¬ 0 < cm:=by
  refine Int.not_lt.2 (hle.2 (Rat.le_trans hl ?_))
  exact_mod_cast (by omega : (200 : Int) ≤ 1000)
 have d1 : decide (0 < cm) = false:=decide_eq_false hcm
 have hmn : dcm m e n f ≤ 0:=by
  unfold smallB at hsm
  rw [Bool.and_eq_true] at hsm
  exact of_decide_eq_true hsm.1
 have hlm : dq m e ≤ 200:=Rat.le_trans ((dcm_le m e n f).1 hmn) hl
 have g4:=fun x W h (hW : Below w.heap.size w W) => xpow_any m e k x W h lm he hv hlm hk (hT.mono hW)
 have g5:=fun x W h (hW : Below w.heap.size w W) => xpow_any n f k x W h ln hf hv2 hl hk (hT.mono hW)
 have g6:=fun x y W h j => dcmp_any m e n f x y W h j (by omega) (by omega) (by omega) (by omega)
 rw [show cmpI (m * 2 ^ (e - min e f).toNat) (n * 2 ^ (f - min e f).toNat) = dcm m e n f from rfl] at g6
 obtain ⟨j, hj⟩ : ∃ j : Nat, k + 20 = j:=⟨_, rfl⟩
 have hji : (j : Int) = (k : Int) + 20:=by omega
 have hpj : permB (j : Int) = true:=by
  unfold permB
  rw [decide_eq_true (show (-2048 : Int) ≤ (j : Int) by omega), decide_eq_true (show (j : Int) ≤ 8192 by omega)]
  rfl
 have hpk : permB (k : Int) = true:=by
  unfold permB
  rw [decide_eq_true (show (-2048 : Int) ≤ (k : Int) by omega), decide_eq_true (show (k : Int) ≤ 8192 by omega)]
  rfl
 have g7:=fun W (hW : Below w.heap.size w W) => gunit_any (j : Int) W (by omega) (by omega) (hT.mono hW)
 obtain ⟨y1, y2, y3⟩:=g_yes hpj 1
 obtain ⟨u1, u2, u3, u4, u5⟩:=np (T:=1) (j:=0) (p:=j) (by unfold AbP; decide) (by omega) (by omega)
 rw [y1, y2, y3, u1] at g7
 have w1 : IntKind.i64.wrap ((k : Int) + 20) = (j : Int):=by rw [IntKind.wrap_i64]; omega
 have hjb : j ≤ 240:=by omega
 have HU:=Lib.hid (And.intro u2 u3)
 have HPK:=Lib.hid hpk
 have HJ:=Lib.hid (And.intro hji (And.intro hjb hk))
 have HLB:=Lib.hid (And.intro hlm hl)
 obtain ⟨Mu, hMu⟩ : ∃ z, mkM 1 (-(j : Int)) = z:=⟨_, rfl⟩
 obtain ⟨Eu, hEu⟩ : ∃ z, mkE 1 (-(j : Int)) = z:=⟨_, rfl⟩
 rw [hMu, hEu] at g7
 have HMU:=Lib.hid (And.intro hMu hEu)
 have hcase : (dcm m e n f < 0) ∨ (m = n ∧ e = f ∧ dcm m e n f = 0):=by
  rcases Int.lt_or_le (dcm m e n f) 0 with q | q
  ·exact Or.inl q
  ·have q0 : dcm m e n f = 0:=by omega
   obtain ⟨a, b⟩:=(dcm_eq hv hv2).1 q0
   exact Or.inr ⟨a, b, q0⟩
 generalize dcm m e n f = cn at *
 have G4:=Lib.hid g4
 have G5:=Lib.hid g5
 have G6:=Lib.hid g6
 have G7:=Lib.hid g7
 clear g4 g5 g6 g7 hle hl hv hv2 lm ln he hf hsm y1 y2 y3 u1 u2 u3 u4 u5 hpj hpk hMu hEu hmn hlm hj hji hjb hk hT hcm
 rcases hcase with hlt | ⟨rfl, rfl, hlt⟩
 ·have d2 : decide (cn < 0) = true:=decide_eq_true hlt
  go_enter Tryz.func14, Tryz.ntmps14
  have L:=((L0.varI (w.heap.size) (by simp) (ng m) A (zl m) c e (ng n) B (zl n) d f).varI (w.heap.size + 1) (by simp) false none 0 0 0 false none 0 0 0)
  have c00:=L.b0.c60
  have f00:=L.b0.fr 0
  have c01:=L.b0.c61
  have f01:=L.b0.fr 1
  have c02:=L.b0.c62
  have f02:=L.b0.fr 2
  have c03:=L.b0.c63
  have f03:=L.b0.fr 3
  have c04:=L.b0.c64
  have f04:=L.b0.fr 4
  have c05:=L.b0.c65
  have f05:=L.b0.fr 5
  (try go_wp2_with fail)
  refine (HP.out _).mono ?_
  rintro e9 w' ⟨rfl, rfl⟩
  (try go_wp2_with fail)
  replace L:=L.drew
  clear c00 f00 c01 f01 c02 f02 c03 f03 c04 f04 c05 f05
  have c10:=L.tl.b0.c60
  have c11:=L.tl.b0.c61
  have c12:=L.tl.b0.c62
  have c13:=L.tl.b0.c63
  have c14:=L.tl.b0.c64
  have c15:=L.tl.b0.c65
  go_region_held3 (fun w' => w'.cell? ⟨w.heap.size, 0, none⟩ = some (.bool (ng m)) ∧ w'.cell? ⟨w.heap.size, 1, none⟩ = some (.slice A (zl m) c) ∧ w'.cell? ⟨w.heap.size, 2, none⟩ = some (.int .i64 e) ∧ w'.cell? ⟨w.heap.size, 3, none⟩ = some (.bool (ng n)) ∧ w'.cell? ⟨w.heap.size, 4, none⟩ = some (.slice B (zl n) d) ∧ w'.cell? ⟨w.heap.size, 5, none⟩ = some (.int .i64 f)) (first | (with_reducible exact ⟨L.tl.b0.c60, L.tl.b0.c61, L.tl.b0.c62, L.tl.b0.c63, L.tl.b0.c64, L.tl.b0.c65⟩) | exact ⟨L.tl.b0.c60, L.tl.b0.c61, L.tl.b0.c62, L.tl.b0.c63, L.tl.b0.c64, L.tl.b0.c65⟩) (first | (go_at_call 55; (with_reducible refine (G1.out _ _ ?_ ).mono ?_); (· (refine isI_n (L.getN ?_) (L.getN ?_); all_goals (repeat (first | (with_reducible exact List.mem_cons_self) | apply List.mem_cons_of_mem)))); rintro e wh ⟨rfl, be⟩; replace L:=L.step be; clear be) | (go_at_call 57; (with_reducible refine (G2.out _ ?_ ).mono ?_); (· exact L.below); rintro e wh ⟨vh, rfl, id, be⟩; obtain ⟨A1, c1, rfl, _, in9⟩:=id.form; replace L:=(L.step be).n in9; clear be id in9) | (go_at_call 56; (with_reducible refine (G3.out _ _ _ ?_ ?_ ).mono ?_); (· (refine isD_n (L.getN ?_); (repeat (first | (with_reducible exact List.mem_cons_self) | apply List.mem_cons_of_mem)))); (· (refine isD_n (L.getN ?_); (repeat (first | (with_reducible exact List.mem_cons_self) | apply List.mem_cons_of_mem)))); rintro e wh ⟨rfl, be⟩; replace L:=L.step be; clear be))
  clear c10 c11 c12 c13 c14 c15
  have c10:=L.tl.b0.c60
  have c11:=L.tl.b0.c61
  have c12:=L.tl.b0.c62
  have c13:=L.tl.b0.c63
  have c14:=L.tl.b0.c64
  have c15:=L.tl.b0.c65
  (try go_wp2_with fail)
  refine (G4.out _ _ (isD_n (m:=m) (e:=e) (s:=.slice A (zl m) c) (L.getN (by simp))) L.below).mono ?_
  rintro e w1 ⟨s1, p1, hp1, hs1, hn19, hl1, hu1, v9, rfl, iz, be⟩
  clear c10 c11 c12 c13 c14 c15
  obtain ⟨A2, c2, rfl, _, in9⟩:=iz.form
  replace L:=(L.step be).n in9
  clear be iz in9
  have hl9:=L.b0.lt
  obtain ⟨M1, hM1⟩ : ∃ z, mkM s1 (-(p1 : Int)) = z:=⟨_, rfl⟩
  obtain ⟨E1, hE1⟩ : ∃ z, mkE s1 (-(p1 : Int)) = z:=⟨_, rfl⟩
  rw [hM1] at L ⊢
  rw [hE1]
  have HW1:=Lib.hid (And.intro hp1 (And.intro hs1 (And.intro hl1 (And.intro hu1 (And.intro hM1 hE1)))))
  clear hp1 hs1 hn19 hl1 hu1 hM1 hE1
  replace L:=L.varD w1.heap.size rfl (ng M1) A2 (zl M1) c2 E1
  have c00:=L.b0.c30
  have c01:=L.b0.c31
  have c02:=L.b0.c32
  replace L:=L.varD (w1.heap.size + 1) (by simp) (ng M1) A2 (zl M1) c2 E1
  have d00:=L.tl.tl.tl.b0.c60
  have d01:=L.tl.tl.tl.b0.c61
  have d02:=L.tl.tl.tl.b0.c62
  have d03:=L.tl.tl.tl.b0.c63
  have d04:=L.tl.tl.tl.b0.c64
  have d05:=L.tl.tl.tl.b0.c65
  (try go_wp2_with fail)
  clear c00 c01 c02 d00 d01 d02 d03 d04 d05
  obtain ⟨g1, hg1⟩ : ∃ g9, w1.heap.size = g9:=⟨_, rfl⟩
  rw [hg1] at L hl9 ⊢
  clear hg1
  have hl_g1:=hl9
  clear hl9
  refine (G6.out _ _ _ (isD_n (m:=m) (e:=e) (s:=.slice A (zl m) c) (L.getN (by simp))) (isD_n (m:=n) (e:=f) (s:=.slice B (zl n) d) (L.getN (by simp)))).mono ?_
  rintro e w2 ⟨rfl, be⟩
  replace L:=L.step be
  clear be
  have c30:=L.tl.tl.tl.b0.c60
  have c31:=L.tl.tl.tl.b0.c61
  have c32:=L.tl.tl.tl.b0.c62
  have c33:=L.tl.tl.tl.b0.c63
  have c34:=L.tl.tl.tl.b0.c64
  have c35:=L.tl.tl.tl.b0.c65
  (try go_wp2_with fail)
  refine (G5.out _ _ (isD_n (m:=n) (e:=f) (s:=.slice B (zl n) d) (L.getN (by simp))) L.below).mono ?_
  rintro e w3 ⟨s2, p2, hp2, hs2, hn29, hl2, hu2, v9, rfl, iz, be⟩
  clear c30 c31 c32 c33 c34 c35
  obtain ⟨A3, c3, rfl, _, in9⟩:=iz.form
  replace L:=(L.step be).n in9
  clear be iz in9
  obtain ⟨M2, hM2⟩ : ∃ z, mkM s2 (-(p2 : Int)) = z:=⟨_, rfl⟩
  obtain ⟨E2, hE2⟩ : ∃ z, mkE s2 (-(p2 : Int)) = z:=⟨_, rfl⟩
  rw [hM2] at L ⊢
  rw [hE2]
  have HW2:=Lib.hid (And.intro hp2 (And.intro hs2 (And.intro hl2 (And.intro hu2 (And.intro hM2 hE2)))))
  clear hp2 hs2 hn29 hl2 hu2 hM2 hE2
  have c00:=L.b0.c30
  have f00:=L.b0.fr 0
  have c01:=L.b0.c31
  have f01:=L.b0.fr 1
  have c02:=L.b0.c32
  have f02:=L.b0.fr 2
  have P:=L.putD (by omega) (by simp; omega) (ng M2) A3 (zl M2) c3 E2
  unfold put3 at P
  (try go_wp2_with fail)
  replace L:=P
  clear P
  clear c00 f00 c01 f01 c02 f02
  refine (G7.out _ L.below).mono ?_
  rintro e w4 ⟨v9, rfl, iz, be⟩
  obtain ⟨A4, c4, rfl, _, in9⟩:=iz.form
  replace L:=(L.step be).n in9
  clear be iz in9
  have hl9:=L.b0.lt
  replace L:=L.varD w4.heap.size rfl (ng Mu) A4 (zl Mu) c4 Eu
  have c00:=L.b0.c30
  have c01:=L.b0.c31
  have c02:=L.b0.c32
  have c20:=L.tl.tl.b0.c30
  have c21:=L.tl.tl.b0.c31
  have c22:=L.tl.tl.b0.c32
  go_wp2_with fail
  clear c00 c01 c02 c20 c21 c22
  obtain ⟨gm, hgm⟩ : ∃ g9, w4.heap.size = g9:=⟨_, rfl⟩
  rw [hgm] at L hl9 ⊢
  clear hgm
  have hl_gm:=hl9
  clear hl9
  obtain ⟨hj1, hj2, hk⟩:=HJ.out
  obtain ⟨hmu, heu⟩:=HMU.out
  obtain ⟨zu, eu⟩:=HU.out
  rw [hmu] at zu
  rw [heu] at eu
  obtain ⟨hp1, hs1, hl1, hu1, hM1, hE1⟩:=HW1.out
  obtain ⟨hp2, hs2, hl2, hu2, hM2, hE2⟩:=HW2.out
  obtain ⟨q1, q2, q3, _, _⟩:=np hs1 (by omega) (show p1 ≤ 3000 by omega)
  rw [hM1] at q2
  rw [hE1] at q3
  obtain ⟨ML, hML⟩ : ∃ z, mkM (addS M1 E1 (-Mu) Eu) (min E1 Eu) = z:=⟨_, rfl⟩
  obtain ⟨EL, hEL⟩ : ∃ z, mkE (addS M1 E1 (-Mu) Eu) (min E1 Eu) = z:=⟨_, rfl⟩
  obtain ⟨l1, l2, l3, l4, l5⟩:=ep_sum (-1) hs1 hp1 (show j ≤ 300 by omega) (Or.inr rfl) ML EL (by rw [hM1, hE1, hmu, heu, Int.neg_mul, Int.one_mul]; exact hML) (by rw [hM1, hE1, hmu, heu, Int.neg_mul, Int.one_mul]; exact hEL)
  rw [hM1, hE1, hmu, heu, Int.neg_mul, Int.one_mul] at l1
  have g8:=fun x y W h i (hW : Below w.heap.size w W) => dsub_any M1 E1 Mu Eu x y W h i (by omega) (by omega) (by omega) (by omega) (HT.out W hW)
  rw [l1, hML, hEL] at g8
  obtain ⟨r1, r2, r3, _, _⟩:=np hs2 (by omega) (show p2 ≤ 3000 by omega)
  rw [hM2] at r2
  rw [hE2] at r3
  obtain ⟨MH, hMH⟩ : ∃ z, mkM (addS M2 E2 Mu Eu) (min E2 Eu) = z:=⟨_, rfl⟩
  obtain ⟨EH, hEH⟩ : ∃ z, mkE (addS M2 E2 Mu Eu) (min E2 Eu) = z:=⟨_, rfl⟩
  obtain ⟨h1, h2, h3, h4, h5⟩:=ep_sum 1 hs2 hp2 (show j ≤ 300 by omega) (Or.inl rfl) MH EH (by rw [hM2, hE2, hmu, heu, Int.one_mul]; exact hMH) (by rw [hM2, hE2, hmu, heu, Int.one_mul]; exact hEH)
  rw [hM2, hE2, hmu, heu, Int.one_mul] at h1
  have g9:=fun x y W h i (hW : Below w.heap.size w W) => dadd_any M2 E2 Mu Eu x y W h i (by omega) (by omega) (by omega) (by omega) (HT.out W hW)
  rw [h1, hMH, hEH] at g9
  rw [hj1, show ((-1 : Int) : Rat) = -1 from rfl] at l2
  rw [hj1, show ((1 : Int) : Rat) = 1 from rfl] at h2
  have HL:=Lib.hid (And.intro l2 (And.intro l3 (And.intro l4 l5)))
  have HH:=Lib.hid (And.intro h2 (And.intro h3 h4))
  have G8:=Lib.hid g8
  have G9:=Lib.hid g9
  have g10:=fun x W h => dsign_any ML EL x W h (by omega)
  have G10:=Lib.hid g10
  clear g8 g9 g10 l1 l2 l3 l4 l5 h1 h2 h3 h4 h5 q1 q2 q3 zu eu hmu heu hj1 hj2 hk hML hEL hMH hEH hp1 hs1 hl1 hu1 hM1 hE1 hp2 hs2 hl2 hu2 hM2 hE2 r1 r2 r3
  refine (G8.out _ _ _ (isD_n (m:=M1) (e:=E1) (s:=.slice A2 (zl M1) c2) (L.getN (by simp))) (isD_n (m:=Mu) (e:=Eu) (s:=.slice A4 (zl Mu) c4) (L.getN (by simp))) L.below).mono ?_
  rintro e w5 ⟨v9, rfl, iz, be⟩
  obtain ⟨A5, c5, rfl, _, in9⟩:=iz.form
  replace L:=(L.step be).n in9
  clear be iz in9
  have hl9:=L.b0.lt
  replace L:=L.varD w5.heap.size rfl (ng ML) A5 (zl ML) c5 EL
  have c10:=L.tl.b0.c30
  have c11:=L.tl.b0.c31
  have c12:=L.tl.b0.c32
  have c20:=L.tl.tl.b0.c30
  have c21:=L.tl.tl.b0.c31
  have c22:=L.tl.tl.b0.c32
  go_wp2_with fail
  clear c10 c11 c12 c20 c21 c22
  obtain ⟨gl, hgl⟩ : ∃ g9, w5.heap.size = g9:=⟨_, rfl⟩
  rw [hgl] at L hl9 ⊢
  clear hgl
  have hl_gl:=hl9
  clear hl9
  refine (G9.out _ _ _ (isD_n (m:=M2) (e:=E2) (s:=.slice A3 (zl M2) c3) (L.getN (by simp))) (isD_n (m:=Mu) (e:=Eu) (s:=.slice A4 (zl Mu) c4) (L.getN (by simp))) L.below).mono ?_
  rintro e w6 ⟨v9, rfl, iz, be⟩
  obtain ⟨A6, c6, rfl, _, in9⟩:=iz.form
  replace L:=(L.step be).n in9
  clear be iz in9
  have hl9:=L.b0.lt
  replace L:=L.varD w6.heap.size rfl (ng MH) A6 (zl MH) c6 EH
  have c10:=L.tl.b0.c30
  have c11:=L.tl.b0.c31
  have c12:=L.tl.b0.c32
  go_wp2_with fail
  clear c10 c11 c12
  obtain ⟨gh, hgh⟩ : ∃ g9, w6.heap.size = g9:=⟨_, rfl⟩
  rw [hgh] at L hl9 ⊢
  clear hgh
  have hl_gh:=hl9
  clear hl9
  refine (G10.out _ _ (isD_n (m:=ML) (e:=EL) (s:=.slice A5 (zl ML) c5) (L.getN (by simp)))).mono ?_
  rintro e w7 ⟨rfl, be⟩
  replace L:=L.step be
  clear be
  have L9:=L.subx (ns':=[(.slice A5 (zl ML) c5, ML.natAbs), (.slice A6 (zl MH) c6, MH.natAbs)]) (bs':=[(gl, 26, #[.bool (ng ML), .slice A5 (zl ML) c5, .int .i64 EL]), (gh, 26, #[.bool (ng MH), .slice A6 (zl MH) c6, .int .i64 EH]), (w.heap.size + 1, 28, #[.bool false, .slice none 0 0, .int .i64 0, .bool false, .slice none 0 0, .int .i64 0])]) (by simp) (by simp)
  clear L
  have L:=L9
  clear L9
  obtain ⟨l2, l3, l4, l5⟩:=HL.out
  obtain ⟨h2, h3, h4⟩:=HH.out
  obtain ⟨hj1, hj2, hk⟩:=HJ.out
  obtain ⟨hp1, hs1, hl1, hu1, hM1, hE1⟩:=HW1.out
  obtain ⟨hp2, hs2, hl2, hu2, hM2, hE2⟩:=HW2.out
  have n1 : gl ≠ gh:=by omega
  have n2 : w.heap.size + 1 ≠ gh:=by omega
  have n3 : w.heap.size + 1 ≠ gl:=by omega
  have eb:=ep_hi hl2 hu2 HLB.out.2
  have h2' : dq MH EH = dq s2 (-(p2 : Int)) + dq 1 (-((k : Int) + 20)):=by rw [h2, Rat.one_mul]
  rw [← h2'] at eb
  obtain ⟨b, hb⟩ : ∃ z, -(cutQ (-(dq MH EH)) (k : Int)) = z:=⟨_, rfl⟩
  rw [hb] at eb
  obtain ⟨b1, _⟩:=np eb.1 (by omega) (show k ≤ 3000 by omega)
  have l2' : dq ML EL = dq s1 (-(p1 : Int)) - dq 1 (-((k : Int) + 20)):=by rw [l2, Rat.sub_eq_add_neg, Rat.neg_mul, Rat.one_mul]
  clear l2 h2 h2'
  rcases Int.lt_or_le ML 0 with hneg | hneg
  ·have d3 : decide (cmpI ML 0 < 0) = true:=decide_eq_true (by rw [cmpI_lt hneg]; omega)
   have hz:=(dq_le_iff 0 ML EL)
   rw [dq_zero] at hz
   have hq : dq ML EL < 0:=Rat.not_le.1 fun h => by have:=hz.1 h; omega
   rw [l2'] at hq
   have ea:=ep_lo (Q:=dq 0 0) hl1 hu1 HLB.out.1 (Or.inl ⟨dq_zero 0, hq⟩)
   obtain ⟨a, ha⟩ : ∃ z, cutQ (dq 0 0) (k : Int) = z:=⟨_, rfl⟩
   rw [ha] at ea
   obtain ⟨a1, _⟩:=np ea.2.1 (by omega) (show k ≤ 3000 by omega)
   have g11:=fun x W h (hW : Below w.heap.size w W) => i10out_yes 0 0 MH EH (k : Int) x W h (by rw [show zl 0 = 0 from len_zero]; omega) (by omega) (by omega) (by omega) (by omega) (by omega) HPK.out (by rw [ha]; exact a1) (by rw [hb]; exact b1) (HT.out W hW)
   rw [ha, hb] at g11
   obtain ⟨Ma, hMa⟩ : ∃ z, mkM a (-(k : Int)) = z:=⟨_, rfl⟩
   obtain ⟨Ea, hEa⟩ : ∃ z, mkE a (-(k : Int)) = z:=⟨_, rfl⟩
   obtain ⟨Nb, hNb⟩ : ∃ z, mkM b (-(k : Int)) = z:=⟨_, rfl⟩
   obtain ⟨Fb, hFb⟩ : ∃ z, mkE b (-(k : Int)) = z:=⟨_, rfl⟩
   rw [hMa, hEa, hNb, hFb] at g11
   have G11:=Lib.hid g11
   have HR:=Lib.hid (And.intro ea (And.intro eb (And.intro (And.intro hMa hEa) (And.intro hNb hFb))))
   clear g11 ea eb hMa hEa hNb hFb ha hb a1 b1 hz hq hneg hl1 hu1 hs1 hM1 hE1 l2' l3 l4 l5 h3 h4 hp1 hj1 hj2 hk hl2 hu2 hs2 hM2 hE2 hp2
   have c00:=L.b0.c30
   have f00:=L.b0.fr 0
   have c01:=L.b0.c31
   have f01:=L.b0.fr 1
   have c02:=L.b0.c32
   have f02:=L.b0.fr 2
   have c10:=L.tl.b0.c30
   have c11:=L.tl.b0.c31
   have c12:=L.tl.b0.c32
   have P:=L.putD (by omega) (by simp [n1, n2, n3, Ne.symm n1, Ne.symm n2, Ne.symm n3]) false none 0 0 0
   have p00:=P.b0.c30
   have p01:=P.b0.c31
   have p02:=P.b0.c32
   have p03:=P.tl.b0.c30
   have p04:=P.tl.b0.c31
   have p05:=P.tl.b0.c32
   unfold put3 at p00 p01 p02 p03 p04 p05 P
   (try go_wp2_with fail)
   replace L:=P
   clear P p00 p01 p02 p03 p04 p05
   clear c00 f00 c01 f01 c02 f02 c10 c11 c12
   refine (G11.out _ _ ⟨.slice none 0 0, .slice A6 (zl MH) c6, by simp [ng], IsN.zero _, L.getN (by simp)⟩ L.below).mono ?_
   rintro e w8 ⟨v2, rfl, ii, be⟩
   obtain ⟨A8, c8, B8, d8, rfl, ia, ib⟩:=ii.form
   replace L:=(((L.step be).n ib).n ia).pull2
   clear be ii ia ib
   have c00:=L.b0.c60
   have f00:=L.b0.fr 0
   have c01:=L.b0.c61
   have f01:=L.b0.fr 1
   have c02:=L.b0.c62
   have f02:=L.b0.fr 2
   have c03:=L.b0.c63
   have f03:=L.b0.fr 3
   have c04:=L.b0.c64
   have f04:=L.b0.fr 4
   have c05:=L.b0.c65
   have f05:=L.b0.fr 5
   go_wp2_with fail
   clear c00 f00 c01 f01 c02 f02 c03 f03 c04 f04 c05 f05
   obtain ⟨ea, eb, ⟨hMa, hEa⟩, hNb, hFb⟩:=HR.out
   subst hMa hEa hNb hFb
   have LP:=L.putI (by omega) (by simp [n2, n3, Ne.symm n2, Ne.symm n3]) (ng (mkM a (-(k : Int)))) A8 (zl (mkM a (-(k : Int)))) c8 (mkE a (-(k : Int))) (ng (mkM b (-(k : Int)))) B8 (zl (mkM b (-(k : Int)))) d8 (mkE b (-(k : Int)))
   have k0:=LP.b0.c60
   have k1:=LP.b0.c61
   have k2:=LP.b0.c62
   have k3:=LP.b0.c63
   have k4:=LP.b0.c64
   have k5:=LP.b0.c65
   unfold put6 at k0 k1 k2 k3 k4 k5
   exact bodyPost_ret (v:=.tuple #[.agg #[.bool (ng (mkM a (-(k : Int)))), .slice A8 (zl (mkM a (-(k : Int)))) c8, .int .i64 (mkE a (-(k : Int))), .bool (ng (mkM b (-(k : Int)))), .slice B8 (zl (mkM b (-(k : Int)))) d8, .int .i64 (mkE b (-(k : Int)))], .int .i64 0]) (by simp [results, Tryz.results14, go_sem, k0, k1, k2, k3, k4, k5]) rfl ⟨a, b, ea, eb, _, rfl, isI_n (LP.getN (by simp)) (LP.getN (by simp)), LP.below⟩
  ·have d3 : decide (cmpI ML 0 < 0) = false:=by
    refine decide_eq_false ?_
    unfold cmpI
    (repeat' split) <;> omega
   have hz:=(dq_le_iff 0 ML EL)
   rw [dq_zero] at hz
   have hq:=hz.2 hneg
   have ea:=ep_lo (Q:=dq ML EL) hl1 hu1 HLB.out.1 (Or.inr ⟨l2', hq⟩)
   obtain ⟨a, ha⟩ : ∃ z, cutQ (dq ML EL) (k : Int) = z:=⟨_, rfl⟩
   rw [ha] at ea
   obtain ⟨a1, _⟩:=np ea.2.1 (by omega) (show k ≤ 3000 by omega)
   have g11:=fun x W h (hW : Below w.heap.size w W) => i10out_yes ML EL MH EH (k : Int) x W h (by omega) (by omega) (by omega) (by omega) (by omega) (by omega) HPK.out (by rw [ha]; exact a1) (by rw [hb]; exact b1) (HT.out W hW)
   rw [ha, hb] at g11
   obtain ⟨Ma, hMa⟩ : ∃ z, mkM a (-(k : Int)) = z:=⟨_, rfl⟩
   obtain ⟨Ea, hEa⟩ : ∃ z, mkE a (-(k : Int)) = z:=⟨_, rfl⟩
   obtain ⟨Nb, hNb⟩ : ∃ z, mkM b (-(k : Int)) = z:=⟨_, rfl⟩
   obtain ⟨Fb, hFb⟩ : ∃ z, mkE b (-(k : Int)) = z:=⟨_, rfl⟩
   rw [hMa, hEa, hNb, hFb] at g11
   have G11:=Lib.hid g11
   have HR:=Lib.hid (And.intro ea (And.intro eb (And.intro (And.intro hMa hEa) (And.intro hNb hFb))))
   clear g11 ea eb hMa hEa hNb hFb ha hb a1 b1 hz hq hneg hl1 hu1 hs1 hM1 hE1 l2' l3 l4 l5 h3 h4 hp1 hj1 hj2 hk hl2 hu2 hs2 hM2 hE2 hp2
   have c00:=L.b0.c30
   have f00:=L.b0.fr 0
   have c01:=L.b0.c31
   have f01:=L.b0.fr 1
   have c02:=L.b0.c32
   have f02:=L.b0.fr 2
   have c10:=L.tl.b0.c30
   have c11:=L.tl.b0.c31
   have c12:=L.tl.b0.c32
   (try go_wp2_with fail)
   clear c00 f00 c01 f01 c02 f02 c10 c11 c12
   refine (G11.out _ _ (isI_n (m:=ML) (e:=EL) (n:=MH) (f:=EH) (s:=.slice A5 (zl ML) c5) (t:=.slice A6 (zl MH) c6) (L.getN (by simp)) (L.getN (by simp))) L.below).mono ?_
   rintro e w8 ⟨v2, rfl, ii, be⟩
   obtain ⟨A8, c8, B8, d8, rfl, ia, ib⟩:=ii.form
   replace L:=(((L.step be).n ib).n ia).pull2
   clear be ii ia ib
   have c00:=L.b0.c60
   have f00:=L.b0.fr 0
   have c01:=L.b0.c61
   have f01:=L.b0.fr 1
   have c02:=L.b0.c62
   have f02:=L.b0.fr 2
   have c03:=L.b0.c63
   have f03:=L.b0.fr 3
   have c04:=L.b0.c64
   have f04:=L.b0.fr 4
   have c05:=L.b0.c65
   have f05:=L.b0.fr 5
   go_wp2_with fail
   clear c00 f00 c01 f01 c02 f02 c03 f03 c04 f04 c05 f05
   obtain ⟨ea, eb, ⟨hMa, hEa⟩, hNb, hFb⟩:=HR.out
   subst hMa hEa hNb hFb
   have LP:=L.putI (by omega) (by simp [n2, n3, Ne.symm n2, Ne.symm n3]) (ng (mkM a (-(k : Int)))) A8 (zl (mkM a (-(k : Int)))) c8 (mkE a (-(k : Int))) (ng (mkM b (-(k : Int)))) B8 (zl (mkM b (-(k : Int)))) d8 (mkE b (-(k : Int)))
   have k0:=LP.b0.c60
   have k1:=LP.b0.c61
   have k2:=LP.b0.c62
   have k3:=LP.b0.c63
   have k4:=LP.b0.c64
   have k5:=LP.b0.c65
   unfold put6 at k0 k1 k2 k3 k4 k5
   exact bodyPost_ret (v:=.tuple #[.agg #[.bool (ng (mkM a (-(k : Int)))), .slice A8 (zl (mkM a (-(k : Int)))) c8, .int .i64 (mkE a (-(k : Int))), .bool (ng (mkM b (-(k : Int)))), .slice B8 (zl (mkM b (-(k : Int)))) d8, .int .i64 (mkE b (-(k : Int)))], .int .i64 0]) (by simp [results, Tryz.results14, go_sem, k0, k1, k2, k3, k4, k5]) rfl ⟨a, b, ea, eb, _, rfl, isI_n (LP.getN (by simp)) (LP.getN (by simp)), LP.below⟩
 ·have d2 : decide (cn < 0) = false:=decide_eq_false (by omega)
  go_enter Tryz.func14, Tryz.ntmps14
  have L:=((L0.varI (w.heap.size) (by simp) (ng m) A (zl m) c e (ng m) B (zl m) d e).varI (w.heap.size + 1) (by simp) false none 0 0 0 false none 0 0 0)
  have c00:=L.b0.c60
  have f00:=L.b0.fr 0
  have c01:=L.b0.c61
  have f01:=L.b0.fr 1
  have c02:=L.b0.c62
  have f02:=L.b0.fr 2
  have c03:=L.b0.c63
  have f03:=L.b0.fr 3
  have c04:=L.b0.c64
  have f04:=L.b0.fr 4
  have c05:=L.b0.c65
  have f05:=L.b0.fr 5
  (try go_wp2_with fail)
  refine (HP.out _).mono ?_
  rintro e9 w' ⟨rfl, rfl⟩
  (try go_wp2_with fail)
  replace L:=L.drew
  clear c00 f00 c01 f01 c02 f02 c03 f03 c04 f04 c05 f05
  have c10:=L.tl.b0.c60
  have c11:=L.tl.b0.c61
  have c12:=L.tl.b0.c62
  have c13:=L.tl.b0.c63
  have c14:=L.tl.b0.c64
  have c15:=L.tl.b0.c65
  go_region_held3 (fun w' => w'.cell? ⟨w.heap.size, 0, none⟩ = some (.bool (ng m)) ∧ w'.cell? ⟨w.heap.size, 1, none⟩ = some (.slice A (zl m) c) ∧ w'.cell? ⟨w.heap.size, 2, none⟩ = some (.int .i64 e) ∧ w'.cell? ⟨w.heap.size, 3, none⟩ = some (.bool (ng m)) ∧ w'.cell? ⟨w.heap.size, 4, none⟩ = some (.slice B (zl m) d) ∧ w'.cell? ⟨w.heap.size, 5, none⟩ = some (.int .i64 e)) (first | (with_reducible exact ⟨L.tl.b0.c60, L.tl.b0.c61, L.tl.b0.c62, L.tl.b0.c63, L.tl.b0.c64, L.tl.b0.c65⟩) | exact ⟨L.tl.b0.c60, L.tl.b0.c61, L.tl.b0.c62, L.tl.b0.c63, L.tl.b0.c64, L.tl.b0.c65⟩) (first | (go_at_call 55; (with_reducible refine (G1.out _ _ ?_ ).mono ?_); (· (refine isI_n (L.getN ?_) (L.getN ?_); all_goals (repeat (first | (with_reducible exact List.mem_cons_self) | apply List.mem_cons_of_mem)))); rintro e wh ⟨rfl, be⟩; replace L:=L.step be; clear be) | (go_at_call 57; (with_reducible refine (G2.out _ ?_ ).mono ?_); (· exact L.below); rintro e wh ⟨vh, rfl, id, be⟩; obtain ⟨A1, c1, rfl, _, in9⟩:=id.form; replace L:=(L.step be).n in9; clear be id in9) | (go_at_call 56; (with_reducible refine (G3.out _ _ _ ?_ ?_ ).mono ?_); (· (refine isD_n (L.getN ?_); (repeat (first | (with_reducible exact List.mem_cons_self) | apply List.mem_cons_of_mem)))); (· (refine isD_n (L.getN ?_); (repeat (first | (with_reducible exact List.mem_cons_self) | apply List.mem_cons_of_mem)))); rintro e wh ⟨rfl, be⟩; replace L:=L.step be; clear be))
  clear c10 c11 c12 c13 c14 c15
  have c10:=L.tl.b0.c60
  have c11:=L.tl.b0.c61
  have c12:=L.tl.b0.c62
  have c13:=L.tl.b0.c63
  have c14:=L.tl.b0.c64
  have c15:=L.tl.b0.c65
  (try go_wp2_with fail)
  refine (G4.out _ _ (isD_n (m:=m) (e:=e) (s:=.slice A (zl m) c) (L.getN (by simp))) L.below).mono ?_
  rintro e w1 ⟨s1, p1, hp1, hs1, hn19, hl1, hu1, v9, rfl, iz, be⟩
  clear c10 c11 c12 c13 c14 c15
  obtain ⟨A2, c2, rfl, _, in9⟩:=iz.form
  replace L:=(L.step be).n in9
  clear be iz in9
  have hl9:=L.b0.lt
  obtain ⟨M1, hM1⟩ : ∃ z, mkM s1 (-(p1 : Int)) = z:=⟨_, rfl⟩
  obtain ⟨E1, hE1⟩ : ∃ z, mkE s1 (-(p1 : Int)) = z:=⟨_, rfl⟩
  rw [hM1] at L ⊢
  rw [hE1]
  have HW1:=Lib.hid (And.intro hp1 (And.intro hs1 (And.intro hl1 (And.intro hu1 (And.intro hM1 hE1)))))
  clear hp1 hs1 hn19 hl1 hu1 hM1 hE1
  replace L:=L.varD w1.heap.size rfl (ng M1) A2 (zl M1) c2 E1
  have c00:=L.b0.c30
  have c01:=L.b0.c31
  have c02:=L.b0.c32
  replace L:=L.varD (w1.heap.size + 1) (by simp) (ng M1) A2 (zl M1) c2 E1
  have d00:=L.tl.tl.tl.b0.c60
  have d01:=L.tl.tl.tl.b0.c61
  have d02:=L.tl.tl.tl.b0.c62
  have d03:=L.tl.tl.tl.b0.c63
  have d04:=L.tl.tl.tl.b0.c64
  have d05:=L.tl.tl.tl.b0.c65
  (try go_wp2_with fail)
  clear c00 c01 c02 d00 d01 d02 d03 d04 d05
  obtain ⟨g1, hg1⟩ : ∃ g9, w1.heap.size = g9:=⟨_, rfl⟩
  rw [hg1] at L hl9 ⊢
  clear hg1
  have hl_g1:=hl9
  clear hl9
  refine (G6.out _ _ _ (isD_n (m:=m) (e:=e) (s:=.slice A (zl m) c) (L.getN (by simp))) (isD_n (m:=m) (e:=e) (s:=.slice B (zl m) d) (L.getN (by simp)))).mono ?_
  rintro e w2 ⟨rfl, be⟩
  replace L:=L.step be
  clear be
  (try go_wp2_with fail)
  refine (G7.out _ L.below).mono ?_
  rintro e w3 ⟨v9, rfl, iz, be⟩
  obtain ⟨A4, c4, rfl, _, in9⟩:=iz.form
  replace L:=(L.step be).n in9
  clear be iz in9
  have hl9:=L.b0.lt
  replace L:=L.varD w3.heap.size rfl (ng Mu) A4 (zl Mu) c4 Eu
  have c00:=L.b0.c30
  have c01:=L.b0.c31
  have c02:=L.b0.c32
  have c20:=L.tl.tl.b0.c30
  have c21:=L.tl.tl.b0.c31
  have c22:=L.tl.tl.b0.c32
  go_wp2_with fail
  clear c00 c01 c02 c20 c21 c22
  obtain ⟨gm, hgm⟩ : ∃ g9, w3.heap.size = g9:=⟨_, rfl⟩
  rw [hgm] at L hl9 ⊢
  clear hgm
  have hl_gm:=hl9
  clear hl9
  obtain ⟨hj1, hj2, hk⟩:=HJ.out
  obtain ⟨hmu, heu⟩:=HMU.out
  obtain ⟨zu, eu⟩:=HU.out
  rw [hmu] at zu
  rw [heu] at eu
  obtain ⟨hp1, hs1, hl1, hu1, hM1, hE1⟩:=HW1.out
  obtain ⟨q1, q2, q3, _, _⟩:=np hs1 (by omega) (show p1 ≤ 3000 by omega)
  rw [hM1] at q2
  rw [hE1] at q3
  obtain ⟨ML, hML⟩ : ∃ z, mkM (addS M1 E1 (-Mu) Eu) (min E1 Eu) = z:=⟨_, rfl⟩
  obtain ⟨EL, hEL⟩ : ∃ z, mkE (addS M1 E1 (-Mu) Eu) (min E1 Eu) = z:=⟨_, rfl⟩
  obtain ⟨l1, l2, l3, l4, l5⟩:=ep_sum (-1) hs1 hp1 (show j ≤ 300 by omega) (Or.inr rfl) ML EL (by rw [hM1, hE1, hmu, heu, Int.neg_mul, Int.one_mul]; exact hML) (by rw [hM1, hE1, hmu, heu, Int.neg_mul, Int.one_mul]; exact hEL)
  rw [hM1, hE1, hmu, heu, Int.neg_mul, Int.one_mul] at l1
  have g8:=fun x y W h i (hW : Below w.heap.size w W) => dsub_any M1 E1 Mu Eu x y W h i (by omega) (by omega) (by omega) (by omega) (HT.out W hW)
  rw [l1, hML, hEL] at g8
  obtain ⟨MH, hMH⟩ : ∃ z, mkM (addS M1 E1 Mu Eu) (min E1 Eu) = z:=⟨_, rfl⟩
  obtain ⟨EH, hEH⟩ : ∃ z, mkE (addS M1 E1 Mu Eu) (min E1 Eu) = z:=⟨_, rfl⟩
  obtain ⟨h1, h2, h3, h4, h5⟩:=ep_sum 1 hs1 hp1 (show j ≤ 300 by omega) (Or.inl rfl) MH EH (by rw [hM1, hE1, hmu, heu, Int.one_mul]; exact hMH) (by rw [hM1, hE1, hmu, heu, Int.one_mul]; exact hEH)
  rw [hM1, hE1, hmu, heu, Int.one_mul] at h1
  have g9:=fun x y W h i (hW : Below w.heap.size w W) => dadd_any M1 E1 Mu Eu x y W h i (by omega) (by omega) (by omega) (by omega) (HT.out W hW)
  rw [h1, hMH, hEH] at g9
  rw [hj1, show ((-1 : Int) : Rat) = -1 from rfl] at l2
  rw [hj1, show ((1 : Int) : Rat) = 1 from rfl] at h2
  have HL:=Lib.hid (And.intro l2 (And.intro l3 (And.intro l4 l5)))
  have HH:=Lib.hid (And.intro h2 (And.intro h3 h4))
  have G8:=Lib.hid g8
  have G9:=Lib.hid g9
  have g10:=fun x W h => dsign_any ML EL x W h (by omega)
  have G10:=Lib.hid g10
  clear g8 g9 g10 l1 l2 l3 l4 l5 h1 h2 h3 h4 h5 q1 q2 q3 zu eu hmu heu hj1 hj2 hk hML hEL hMH hEH hp1 hs1 hl1 hu1 hM1 hE1
  refine (G8.out _ _ _ (isD_n (m:=M1) (e:=E1) (s:=.slice A2 (zl M1) c2) (L.getN (by simp))) (isD_n (m:=Mu) (e:=Eu) (s:=.slice A4 (zl Mu) c4) (L.getN (by simp))) L.below).mono ?_
  rintro e w4 ⟨v9, rfl, iz, be⟩
  obtain ⟨A5, c5, rfl, _, in9⟩:=iz.form
  replace L:=(L.step be).n in9
  clear be iz in9
  have hl9:=L.b0.lt
  replace L:=L.varD w4.heap.size rfl (ng ML) A5 (zl ML) c5 EL
  have c10:=L.tl.b0.c30
  have c11:=L.tl.b0.c31
  have c12:=L.tl.b0.c32
  have c20:=L.tl.tl.b0.c30
  have c21:=L.tl.tl.b0.c31
  have c22:=L.tl.tl.b0.c32
  go_wp2_with fail
  clear c10 c11 c12 c20 c21 c22
  obtain ⟨gl, hgl⟩ : ∃ g9, w4.heap.size = g9:=⟨_, rfl⟩
  rw [hgl] at L hl9 ⊢
  clear hgl
  have hl_gl:=hl9
  clear hl9
  refine (G9.out _ _ _ (isD_n (m:=M1) (e:=E1) (s:=.slice A2 (zl M1) c2) (L.getN (by simp))) (isD_n (m:=Mu) (e:=Eu) (s:=.slice A4 (zl Mu) c4) (L.getN (by simp))) L.below).mono ?_
  rintro e w5 ⟨v9, rfl, iz, be⟩
  obtain ⟨A6, c6, rfl, _, in9⟩:=iz.form
  replace L:=(L.step be).n in9
  clear be iz in9
  have hl9:=L.b0.lt
  replace L:=L.varD w5.heap.size rfl (ng MH) A6 (zl MH) c6 EH
  have c10:=L.tl.b0.c30
  have c11:=L.tl.b0.c31
  have c12:=L.tl.b0.c32
  go_wp2_with fail
  clear c10 c11 c12
  obtain ⟨gh, hgh⟩ : ∃ g9, w5.heap.size = g9:=⟨_, rfl⟩
  rw [hgh] at L hl9 ⊢
  clear hgh
  have hl_gh:=hl9
  clear hl9
  refine (G10.out _ _ (isD_n (m:=ML) (e:=EL) (s:=.slice A5 (zl ML) c5) (L.getN (by simp)))).mono ?_
  rintro e w6 ⟨rfl, be⟩
  replace L:=L.step be
  clear be
  have L9:=L.subx (ns':=[(.slice A5 (zl ML) c5, ML.natAbs), (.slice A6 (zl MH) c6, MH.natAbs)]) (bs':=[(gl, 26, #[.bool (ng ML), .slice A5 (zl ML) c5, .int .i64 EL]), (gh, 26, #[.bool (ng MH), .slice A6 (zl MH) c6, .int .i64 EH]), (w.heap.size + 1, 28, #[.bool false, .slice none 0 0, .int .i64 0, .bool false, .slice none 0 0, .int .i64 0])]) (by simp) (by simp)
  clear L
  have L:=L9
  clear L9
  obtain ⟨l2, l3, l4, l5⟩:=HL.out
  obtain ⟨h2, h3, h4⟩:=HH.out
  obtain ⟨hj1, hj2, hk⟩:=HJ.out
  obtain ⟨hp1, hs1, hl1, hu1, hM1, hE1⟩:=HW1.out
  have n1 : gl ≠ gh:=by omega
  have n2 : w.heap.size + 1 ≠ gh:=by omega
  have n3 : w.heap.size + 1 ≠ gl:=by omega
  have eb:=ep_hi hl1 hu1 HLB.out.1
  have h2' : dq MH EH = dq s1 (-(p1 : Int)) + dq 1 (-((k : Int) + 20)):=by rw [h2, Rat.one_mul]
  rw [← h2'] at eb
  obtain ⟨b, hb⟩ : ∃ z, -(cutQ (-(dq MH EH)) (k : Int)) = z:=⟨_, rfl⟩
  rw [hb] at eb
  obtain ⟨b1, _⟩:=np eb.1 (by omega) (show k ≤ 3000 by omega)
  have l2' : dq ML EL = dq s1 (-(p1 : Int)) - dq 1 (-((k : Int) + 20)):=by rw [l2, Rat.sub_eq_add_neg, Rat.neg_mul, Rat.one_mul]
  clear l2 h2 h2'
  rcases Int.lt_or_le ML 0 with hneg | hneg
  ·have d3 : decide (cmpI ML 0 < 0) = true:=decide_eq_true (by rw [cmpI_lt hneg]; omega)
   have hz:=(dq_le_iff 0 ML EL)
   rw [dq_zero] at hz
   have hq : dq ML EL < 0:=Rat.not_le.1 fun h => by have:=hz.1 h; omega
   rw [l2'] at hq
   have ea:=ep_lo (Q:=dq 0 0) hl1 hu1 HLB.out.1 (Or.inl ⟨dq_zero 0, hq⟩)
   obtain ⟨a, ha⟩ : ∃ z, cutQ (dq 0 0) (k : Int) = z:=⟨_, rfl⟩
   rw [ha] at ea
   obtain ⟨a1, _⟩:=np ea.2.1 (by omega) (show k ≤ 3000 by omega)
   have g11:=fun x W h (hW : Below w.heap.size w W) => i10out_yes 0 0 MH EH (k : Int) x W h (by rw [show zl 0 = 0 from len_zero]; omega) (by omega) (by omega) (by omega) (by omega) (by omega) HPK.out (by rw [ha]; exact a1) (by rw [hb]; exact b1) (HT.out W hW)
   rw [ha, hb] at g11
   obtain ⟨Ma, hMa⟩ : ∃ z, mkM a (-(k : Int)) = z:=⟨_, rfl⟩
   obtain ⟨Ea, hEa⟩ : ∃ z, mkE a (-(k : Int)) = z:=⟨_, rfl⟩
   obtain ⟨Nb, hNb⟩ : ∃ z, mkM b (-(k : Int)) = z:=⟨_, rfl⟩
   obtain ⟨Fb, hFb⟩ : ∃ z, mkE b (-(k : Int)) = z:=⟨_, rfl⟩
   rw [hMa, hEa, hNb, hFb] at g11
   have G11:=Lib.hid g11
   have HR:=Lib.hid (And.intro ea (And.intro eb (And.intro (And.intro hMa hEa) (And.intro hNb hFb))))
   clear g11 ea eb hMa hEa hNb hFb ha hb a1 b1 hz hq hneg hl1 hu1 hs1 hM1 hE1 l2' l3 l4 l5 h3 h4 hp1 hj1 hj2 hk
   have c00:=L.b0.c30
   have f00:=L.b0.fr 0
   have c01:=L.b0.c31
   have f01:=L.b0.fr 1
   have c02:=L.b0.c32
   have f02:=L.b0.fr 2
   have c10:=L.tl.b0.c30
   have c11:=L.tl.b0.c31
   have c12:=L.tl.b0.c32
   have P:=L.putD (by omega) (by simp [n1, n2, n3, Ne.symm n1, Ne.symm n2, Ne.symm n3]) false none 0 0 0
   have p00:=P.b0.c30
   have p01:=P.b0.c31
   have p02:=P.b0.c32
   have p03:=P.tl.b0.c30
   have p04:=P.tl.b0.c31
   have p05:=P.tl.b0.c32
   unfold put3 at p00 p01 p02 p03 p04 p05 P
   (try go_wp2_with fail)
   replace L:=P
   clear P p00 p01 p02 p03 p04 p05
   clear c00 f00 c01 f01 c02 f02 c10 c11 c12
   refine (G11.out _ _ ⟨.slice none 0 0, .slice A6 (zl MH) c6, by simp [ng], IsN.zero _, L.getN (by simp)⟩ L.below).mono ?_
   rintro e w7 ⟨v2, rfl, ii, be⟩
   obtain ⟨A8, c8, B8, d8, rfl, ia, ib⟩:=ii.form
   replace L:=(((L.step be).n ib).n ia).pull2
   clear be ii ia ib
   have c00:=L.b0.c60
   have f00:=L.b0.fr 0
   have c01:=L.b0.c61
   have f01:=L.b0.fr 1
   have c02:=L.b0.c62
   have f02:=L.b0.fr 2
   have c03:=L.b0.c63
   have f03:=L.b0.fr 3
   have c04:=L.b0.c64
   have f04:=L.b0.fr 4
   have c05:=L.b0.c65
   have f05:=L.b0.fr 5
   go_wp2_with fail
   clear c00 f00 c01 f01 c02 f02 c03 f03 c04 f04 c05 f05
   obtain ⟨ea, eb, ⟨hMa, hEa⟩, hNb, hFb⟩:=HR.out
   subst hMa hEa hNb hFb
   have LP:=L.putI (by omega) (by simp [n2, n3, Ne.symm n2, Ne.symm n3]) (ng (mkM a (-(k : Int)))) A8 (zl (mkM a (-(k : Int)))) c8 (mkE a (-(k : Int))) (ng (mkM b (-(k : Int)))) B8 (zl (mkM b (-(k : Int)))) d8 (mkE b (-(k : Int)))
   have k0:=LP.b0.c60
   have k1:=LP.b0.c61
   have k2:=LP.b0.c62
   have k3:=LP.b0.c63
   have k4:=LP.b0.c64
   have k5:=LP.b0.c65
   unfold put6 at k0 k1 k2 k3 k4 k5
   exact bodyPost_ret (v:=.tuple #[.agg #[.bool (ng (mkM a (-(k : Int)))), .slice A8 (zl (mkM a (-(k : Int)))) c8, .int .i64 (mkE a (-(k : Int))), .bool (ng (mkM b (-(k : Int)))), .slice B8 (zl (mkM b (-(k : Int)))) d8, .int .i64 (mkE b (-(k : Int)))], .int .i64 0]) (by simp [results, Tryz.results14, go_sem, k0, k1, k2, k3, k4, k5]) rfl ⟨a, b, ea, eb, _, rfl, isI_n (LP.getN (by simp)) (LP.getN (by simp)), LP.below⟩
  ·have d3 : decide (cmpI ML 0 < 0) = false:=by
    refine decide_eq_false ?_
    unfold cmpI
    (repeat' split) <;> omega
   have hz:=(dq_le_iff 0 ML EL)
   rw [dq_zero] at hz
   have hq:=hz.2 hneg
   have ea:=ep_lo (Q:=dq ML EL) hl1 hu1 HLB.out.1 (Or.inr ⟨l2', hq⟩)
   obtain ⟨a, ha⟩ : ∃ z, cutQ (dq ML EL) (k : Int) = z:=⟨_, rfl⟩
   rw [ha] at ea
   obtain ⟨a1, _⟩:=np ea.2.1 (by omega) (show k ≤ 3000 by omega)
   have g11:=fun x W h (hW : Below w.heap.size w W) => i10out_yes ML EL MH EH (k : Int) x W h (by omega) (by omega) (by omega) (by omega) (by omega) (by omega) HPK.out (by rw [ha]; exact a1) (by rw [hb]; exact b1) (HT.out W hW)
   rw [ha, hb] at g11
   obtain ⟨Ma, hMa⟩ : ∃ z, mkM a (-(k : Int)) = z:=⟨_, rfl⟩
   obtain ⟨Ea, hEa⟩ : ∃ z, mkE a (-(k : Int)) = z:=⟨_, rfl⟩
   obtain ⟨Nb, hNb⟩ : ∃ z, mkM b (-(k : Int)) = z:=⟨_, rfl⟩
   obtain ⟨Fb, hFb⟩ : ∃ z, mkE b (-(k : Int)) = z:=⟨_, rfl⟩
   rw [hMa, hEa, hNb, hFb] at g11
   have G11:=Lib.hid g11
   have HR:=Lib.hid (And.intro ea (And.intro eb (And.intro (And.intro hMa hEa) (And.intro hNb hFb))))
   clear g11 ea eb hMa hEa hNb hFb ha hb a1 b1 hz hq hneg hl1 hu1 hs1 hM1 hE1 l2' l3 l4 l5 h3 h4 hp1 hj1 hj2 hk
   have c00:=L.b0.c30
   have f00:=L.b0.fr 0
   have c01:=L.b0.c31
   have f01:=L.b0.fr 1
   have c02:=L.b0.c32
   have f02:=L.b0.fr 2
   have c10:=L.tl.b0.c30
   have c11:=L.tl.b0.c31
   have c12:=L.tl.b0.c32
   (try go_wp2_with fail)
   clear c00 f00 c01 f01 c02 f02 c10 c11 c12
   refine (G11.out _ _ (isI_n (m:=ML) (e:=EL) (n:=MH) (f:=EH) (s:=.slice A5 (zl ML) c5) (t:=.slice A6 (zl MH) c6) (L.getN (by simp)) (L.getN (by simp))) L.below).mono ?_
   rintro e w7 ⟨v2, rfl, ii, be⟩
   obtain ⟨A8, c8, B8, d8, rfl, ia, ib⟩:=ii.form
   replace L:=(((L.step be).n ib).n ia).pull2
   clear be ii ia ib
   have c00:=L.b0.c60
   have f00:=L.b0.fr 0
   have c01:=L.b0.c61
   have f01:=L.b0.fr 1
   have c02:=L.b0.c62
   have f02:=L.b0.fr 2
   have c03:=L.b0.c63
   have f03:=L.b0.fr 3
   have c04:=L.b0.c64
   have f04:=L.b0.fr 4
   have c05:=L.b0.c65
   have f05:=L.b0.fr 5
   go_wp2_with fail
   clear c00 f00 c01 f01 c02 f02 c03 f03 c04 f04 c05 f05
   obtain ⟨ea, eb, ⟨hMa, hEa⟩, hNb, hFb⟩:=HR.out
   subst hMa hEa hNb hFb
   have LP:=L.putI (by omega) (by simp [n2, n3, Ne.symm n2, Ne.symm n3]) (ng (mkM a (-(k : Int)))) A8 (zl (mkM a (-(k : Int)))) c8 (mkE a (-(k : Int))) (ng (mkM b (-(k : Int)))) B8 (zl (mkM b (-(k : Int)))) d8 (mkE b (-(k : Int)))
   have k0:=LP.b0.c60
   have k1:=LP.b0.c61
   have k2:=LP.b0.c62
   have k3:=LP.b0.c63
   have k4:=LP.b0.c64
   have k5:=LP.b0.c65
   unfold put6 at k0 k1 k2 k3 k4 k5
   exact bodyPost_ret (v:=.tuple #[.agg #[.bool (ng (mkM a (-(k : Int)))), .slice A8 (zl (mkM a (-(k : Int)))) c8, .int .i64 (mkE a (-(k : Int))), .bool (ng (mkM b (-(k : Int)))), .slice B8 (zl (mkM b (-(k : Int)))) d8, .int .i64 (mkE b (-(k : Int)))], .int .i64 0]) (by simp [results, Tryz.results14, go_sem, k0, k1, k2, k3, k4, k5]) rfl ⟨a, b, ea, eb, _, rfl, isI_n (LP.getN (by simp)) (LP.getN (by simp)), LP.below⟩

theorem n2000 : mkM 2000 0 = 125 ∧ mkE 2000 0 = 4:=by
 have h2 : AbP 2000 11:=by unfold AbP; decide
 obtain ⟨a1, _, _, _, _, a6⟩:=nf h2 (by omega)
 have hv : Dv 125 4:=Or.inr ⟨by decide, by decide +kernel⟩
 exact dv_uniq (mk_ok a1) hv (by rw [a6]; decide +kernel)
theorem dv_00 : Dv 0 0:=Or.inl ⟨rfl, rfl⟩
theorem zl_c (x : Int) (h : x.natAbs < 4294967296) : zl x ≤ 1:=len_le1 h

set_option maxHeartbeats 8000000 in
theorem awake14_any (w : World) (hT : Tab w) :
  Calls Tryz.prog 10 #[] w (RetB w true):=by
 have HT:=Lib.hid (fun W (hW : Below w.heap.size w W) => hT.mono hW)
 have z0 : zl 0 ≤ 1:=zl_c 0 (by decide)
 have z5 : zl 125 ≤ 1:=zl_c 125 (by decide)
 have hd0 : dq 0 0 = 0:=dq_zero 0
 have g1:=fun W => of14_any 0 0 W (by omega) (by omega)
 rw [nf00.1, nf00.2] at g1
 have g2:=fun v W h (hW : Below w.heap.size w W) => xexp_yes 0 0 0 0 3 v W h (by omega) (by omega) (by omega) (by omega) dv_00 dv_00 (by decide +kernel) (by omega) (by rw [hd0]; decide +kernel) (hT.mono hW)
 have g3:=fun W => of14_any 2000 2000 W (by omega) (by omega)
 rw [n2000.1, n2000.2] at g3
 have dv5 : Dv 125 4:=Or.inr ⟨by decide, by decide +kernel⟩
 have g4:=fun v W h (hW : Below w.heap.size w W) => xexp_large 125 4 125 4 3 v W h (by omega) (by omega) (by omega) (by omega) dv5 dv5 (by decide +kernel) (by omega) (by decide +kernel) (hT.mono hW)
 have g5:=fun W => (show Calls Tryz.prog 29 #[.int .i64 1] W (RetP W 1 1) from rofn7_any 1 W (by omega) (by omega))
 have G1:=Lib.hid g1
 have G2:=Lib.hid g2
 have G3:=Lib.hid g3
 have G4:=Lib.hid g4
 have G5:=Lib.hid g5
 clear g1 g2 g3 g4 g5 hT dv5
 go_enter Tryz.func10, Tryz.ntmps10
 go_wp2_with fail
 have L:=Lq.mk0 w
 (try go_wp2_with fail)
 refine (G1.out _).mono ?_
 rintro e w1 ⟨vv, rfl, ii, be⟩
 obtain ⟨A1, c1, B1, d1, rfl, ia, ib⟩:=ii.form
 replace L:=((L.step be).n ib).n ia
 clear be ii ia ib
 (try go_wp2_with fail)
 refine (G2.out _ _ (isI_n (m:=0) (e:=0) (n:=0) (f:=0) (s:=.slice A1 (zl 0) c1) (t:=.slice B1 (zl 0) d1) (L.getN (by simp)) (L.getN (by simp))) L.below).mono ?_
 intro e9 w2 hr9
 obtain ⟨a, b, ea, eb, vv, rfl, ii, be⟩:=hr9.ab
 obtain ⟨A2, c2, B2, d2, rfl, ia, ib⟩:=ii.form
 replace L:=((L.step be).n ib).n ia
 clear be ii ia ib hr9
 obtain ⟨x1, x2, x3, x4, x5⟩:=np ea.2.1 (by omega) (show 3 ≤ 3000 by omega)
 obtain ⟨y1, y2, y3, y4, y5⟩:=np eb.1 (by omega) (show 3 ≤ 3000 by omega)
 rw [hd0] at ea eb
 have q1:=ea.2.2.1.le exp_0.2
 have q2:=exp_0.1.le eb.2.2
 have g6 : ∀ v u W, IsI W v (mkM a (-((3 : Nat) : Int))) (mkE a (-((3 : Nat) : Int))) (mkM b (-((3 : Nat) : Int))) (mkE b (-((3 : Nat) : Int))) → IsP W u 1 1 → Calls Tryz.prog 28 #[v, u] W (RetB W true):=fun v u W h k9 => by
  have s:=r10has_any _ _ _ _ 1 1 v u W h k9 (by omega) (by omega) (by omega) (by omega) (Nat.le_trans (zl_c 1 (by decide)) (by omega)) (Nat.le_trans (len_le1 (by decide)) (by omega))
  rwa [(hasB_iff _ _ _ _ _ _ (by omega)).2 ⟨by rw [x5]; exact q1, by rw [y5]; exact q2⟩] at s
 obtain ⟨M, hM⟩ : ∃ z, mkM a (-((3 : Nat) : Int)) = z:=⟨_, rfl⟩
 obtain ⟨E, hE⟩ : ∃ z, mkE a (-((3 : Nat) : Int)) = z:=⟨_, rfl⟩
 obtain ⟨N, hN⟩ : ∃ z, mkM b (-((3 : Nat) : Int)) = z:=⟨_, rfl⟩
 obtain ⟨G, hG⟩ : ∃ z, mkE b (-((3 : Nat) : Int)) = z:=⟨_, rfl⟩
 rw [hM, hE, hN, hG] at g6
 rw [hM, hN] at L ⊢
 rw [hE, hG]
 have G6:=Lib.hid g6
 clear g6 x1 x2 x3 x4 x5 y1 y2 y3 y4 y5 q1 q2 ea eb hM hE hN hG G1 G2
 replace L:=L.varI w2.heap.size rfl (ng M) A2 (zl M) c2 E (ng N) B2 (zl N) d2 G
 have cel00:=L.b0.c60
 have cel01:=L.b0.c61
 have cel02:=L.b0.c62
 have cel03:=L.b0.c63
 have cel04:=L.b0.c64
 have cel05:=L.b0.c65
 go_wp2_with fail
 clear cel00 cel01 cel02 cel03 cel04 cel05
 obtain ⟨b1, hb1⟩ : ∃ g9, w2.heap.size = g9:=⟨_, rfl⟩
 rw [hb1] at L ⊢
 clear hb1
 refine (G3.out _).mono ?_
 rintro e w3 ⟨vv, rfl, ii, be⟩
 obtain ⟨A3, c3, B3, d3, rfl, ia, ib⟩:=ii.form
 replace L:=((L.step be).n ib).n ia
 clear be ii ia ib
 have hl2:=L.b0.lt
 (try go_wp2_with fail)
 refine (G4.out _ _ (isI_n (m:=125) (e:=4) (n:=125) (f:=4) (s:=.slice A3 (zl 125) c3) (t:=.slice B3 (zl 125) d3) (L.getN (by simp)) (L.getN (by simp))) L.below).mono ?_
 rintro e w4 ⟨vv, rfl, ii, be⟩
 obtain ⟨A4, c4, B4, d4, rfl, ia, ib⟩:=ii.form
 replace L:=((L.step be).n ib).n ia
 clear be ii ia ib hl2
 have hl2:=L.b0.lt
 replace L:=L.varI w4.heap.size rfl (ng 0) A4 (zl 0) c4 0 (ng 0) B4 (zl 0) d4 0
 have cel00:=L.b0.c60
 have cel01:=L.b0.c61
 have cel02:=L.b0.c62
 have cel03:=L.b0.c63
 have cel04:=L.b0.c64
 have cel05:=L.b0.c65
 go_wp2_with fail
 clear cel00 cel01 cel02 cel03 cel04 cel05
 obtain ⟨b2, hb2⟩ : ∃ g9, w4.heap.size = g9:=⟨_, rfl⟩
 rw [hb2] at L hl2 ⊢
 clear hb2
 replace L:=L.drew
 have cel10:=L.tl.b0.c60
 have cel11:=L.tl.b0.c61
 have cel12:=L.tl.b0.c62
 have cel13:=L.tl.b0.c63
 have cel14:=L.tl.b0.c64
 have cel15:=L.tl.b0.c65
 go_region_held3 (fun w' => w'.cell? ⟨b1, 0, none⟩ = some (.bool (ng M)) ∧ w'.cell? ⟨b1, 1, none⟩ = some (.slice A2 (zl M) c2) ∧ w'.cell? ⟨b1, 2, none⟩ = some (.int .i64 E) ∧ w'.cell? ⟨b1, 3, none⟩ = some (.bool (ng N)) ∧ w'.cell? ⟨b1, 4, none⟩ = some (.slice B2 (zl N) d2) ∧ w'.cell? ⟨b1, 5, none⟩ = some (.int .i64 G)) (first | (with_reducible exact ⟨L.tl.b0.c60, L.tl.b0.c61, L.tl.b0.c62, L.tl.b0.c63, L.tl.b0.c64, L.tl.b0.c65⟩) | exact ⟨L.tl.b0.c60, L.tl.b0.c61, L.tl.b0.c62, L.tl.b0.c63, L.tl.b0.c64, L.tl.b0.c65⟩) (first | (go_at_call 29; (with_reducible refine (G5.out _ ).mono ?_); rintro e wh ⟨vh, rfl, iq, be⟩; replace L:=(L.step be).q iq; clear be iq) | (go_at_call 28; (with_reducible refine (G6.out _ _ _ ?_ ?_ ).mono ?_); (· (refine isI_n (L.getN ?_) (L.getN ?_); all_goals (repeat (first | (with_reducible exact List.mem_cons_self) | apply List.mem_cons_of_mem)))); (· (refine L.getQ ?_; (repeat (first | (with_reducible exact List.mem_cons_self) | apply List.mem_cons_of_mem)))); rintro e wh ⟨rfl, be⟩; replace L:=L.step be; clear be))
 (try go_wp2_with fail)
 (try go_ret)
 exact ⟨rfl, L.below⟩

theorem mk_fits14 {m e : Int} (h : zl m ≤ 1900) (h1 : -60000 ≤ e) (h2 : e ≤ 4000) : mkR m e = 0:=by
 unfold mkR
 rw [if_neg (by omega)]
 by_cases h0 : m = 0
 ·rw [if_pos h0]
 ·rw [if_neg h0]
  have ht:=tz_le8 m.natAbs (by omega)
  have e1 : zl m = len m.natAbs:=rfl
  have hb : blen (oddM m).natAbs ≤ 65536:=by
   have:=blen_le_len (oddM m).natAbs
   have h3:=zl_odd m
   have e2 : zl (oddM m) = len (oddM m).natAbs:=rfl
   omega
  have ho : bitB (oddM m).natAbs 0 = true:=by
   obtain ⟨k, hk⟩:=tz_form (x:=m.natAbs) (by omega)
   have hd : m.natAbs / 2 ^ tz m.natAbs = 2 * k + 1:=by
    have:=Nat.mul_div_cancel_left (2 * k + 1) (Nat.pow_pos (n:=tz m.natAbs) (show 0 < 2 by omega))
    rwa [← hk] at this
   unfold bitB
   rw [oddM_abs, hd, Nat.pow_zero, Nat.div_one]
   exact decide_eq_true (by omega)
  have hf : fits8 (oddM m) (oddE m e) = true:=by
   unfold fits8 oddE
   rw [decide_eq_true hb, decide_eq_true (by omega), decide_eq_true (by omega), ho]
   rfl
  rw [hf]
  rfl
theorem dv_shift {m e s : Int} (h : Dv m e) (hz : zl m ≤ 3) (he : -5000 ≤ e ∧ e ≤ 3000) (hs : -100 ≤ s ∧ s ≤ 100) : mkR m (e + s) = 0 ∧ mkM m (e + s) = m ∧ (m = 0 ∨ mkE m (e + s) = e + s) ∧ Dv (mkM m (e + s)) (mkE m (e + s)) ∧ dq (mkM m (e + s)) (mkE m (e + s)) = dq m e * dq 1 s:=by
 have hr:=mk_fits14 (m:=m) (e:=e + s) (by omega) (by omega) (by omega)
 have hk:=mk_ok hr
 have hq:=dq_mk hr
 have hq2:=dq_mul m e 1 s
 rw [Int.mul_one] at hq2
 by_cases h0 : m = 0
 ·refine ⟨hr, ?_, Or.inl h0, hk, hq.trans hq2⟩
  unfold mkM
  rw [if_pos hr, h0, oddM_zero]
 ·have hd : Dv m (e + s):=by
   rcases h with ⟨h1, _⟩ | ⟨_, h2⟩
   ·exact absurd h1 h0
   ·refine Or.inr ⟨h0, ?_⟩
    unfold fits8 at *
    rw [Bool.and_eq_true, Bool.and_eq_true, Bool.and_eq_true] at h2
    rw [h2.1, h2.2.2.2, decide_eq_true (show -65536 ≤ e + s by omega), decide_eq_true (show e + s ≤ 65536 by omega)]
    rfl
  obtain ⟨u1, u2⟩:=dv_uniq hk hd hq
  exact ⟨hr, u1, Or.inr u2, hk, hq.trans hq2⟩
structure ArgR (j : Nat) (m e n f : Int) : Prop where
 vm : Dv m e
 vn : Dv n f
 le : dq m e ≤ dq n f
 zm : zl m ≤ 3
 zn : zl n ≤ 3
 em : m = 0 ∨ (-40 - 20 * (j : Int) ≤ e ∧ e ≤ 136 - 20 * (j : Int))
 en : n = 0 ∨ (-40 - 20 * (j : Int) ≤ f ∧ f ≤ 136 - 20 * (j : Int))
theorem ArgR.first {m e n f : Int} (h1 : Dv m e) (h2 : Dv n f) (hl : dcm m e n f ≤ 0) (z1 : zl m ≤ 2 + 1) (z2 : zl n ≤ 2 + 1) (he : -((40 : Nat) : Int) ≤ e ∧ e ≤ ((40 : Nat) : Int) + 32 * (((2 : Nat) : Int) + 1)) (hf : -((40 : Nat) : Int) ≤ f ∧ f ≤ ((40 : Nat) : Int) + 32 * (((2 : Nat) : Int) + 1)) : ArgR 0 m e n f:=
 ⟨h1, h2, (dcm_le _ _ _ _).1 hl, z1, z2, Or.inr (by omega), Or.inr (by omega)⟩
section
variable {w0 w : World} {ns : List (Value × Nat)} {zs : List (Value × Int)} {qs : List (Value × Int × Nat)} {bs : List (Nat × TypeId × Array Value)} {g : Nat} {v0 v1 v2 v3 v4 v5 : Value}
end
structure ArgX (B m e n f : Int) : Prop where
 vm : Dv m e
 vn : Dv n f
 le : dq m e ≤ dq n f
 zm : zl m ≤ 60
 zn : zl n ≤ 60
 em : -3000 ≤ e ∧ e ≤ 3000
 en : -3000 ≤ f ∧ f ≤ 3000
 lo : -dq 1 B ≤ dq m e
 hi : dq n f ≤ dq 1 B
theorem ArgX.all {B m e n f : Int} (h : ArgX B m e n f) (hB : B ≤ 8) : smallB m e n f = true ∧ topZ m e ≤ 11 ∧ topZ n f ≤ 11 ∧ -256 ≤ dq m e ∧ dq n f ≤ 256:=by
 have v8 : dq 1 8 = 256:=by decide +kernel
 have v11 : dq 1 11 = 2048:=by decide +kernel
 have hb:=dq_anti hB
 rw [v8] at hb
 have l1 : -256 ≤ dq m e:=Rat.le_trans (Rat.neg_le_neg hb) h.lo
 have l2 : dq n f ≤ 256:=Rat.le_trans h.hi hb
 have l3:=h.le
 have tm : topZ m e ≤ 11:=by
  refine (top_iff (by omega)).2 ?_
  rw [v11]
  generalize dq m e = p at *
  generalize dq n f = q at *
  clear h hb
  constructor <;> grind
 have tn : topZ n f ≤ 11:=by
  refine (top_iff (by omega)).2 ?_
  rw [v11]
  generalize dq m e = p at *
  generalize dq n f = q at *
  clear h hb
  constructor <;> grind
 have em:=h.em
 have en:=h.en
 exact ⟨small14 h.zm h.zn (by omega) (by omega) ((dcm_le _ _ _ _).2 h.le) (by omega) (by omega), tm, tn, l1, l2⟩
def pt1 (c : Int) (p : Nat → Int × Int) (v : Nat) : Option Int:=match smP p 600 0 (2 ^ v) 0 with
 | none => none
 | some a => some (a * c)
def add2 : Option Int → Option Int → Option Int
 | some a, some b => some (a + b)
 | _, _ => none
def lnT (v : Nat) : Option Int:=add2 (add2 (pt1 18 (tnP 26 (-1)) v) (pt1 (-2) (tnP 4801 (-1)) v)) (pt1 8 (tnP 8749 (-1)) v)
def cLn : Int:=2268941470734616186861435708167256132234041358636494052997072697895108538484637608683501933121951412824912851708240389810467206005511724841255000151707
set_option maxHeartbeats 4000000 in
theorem cfrac_any (num den : Int) (w : World) (h1 : -4611686018427387904 ≤ num) (h2 : num ≤ 4611686018427387904) (hd : 0 < den) (hd2 : den ≤ 4611686018427387904) :
  Calls Tryz.prog 156 #[.int .i64 num, .int .i64 den] w (RetQ w (Rat.divInt num den)):=by
 have z1:=len_le2 (x:=num.natAbs) (by omega)
 have z2:=len_le2 (x:=den.natAbs) (by omega)
 have z3:=len_le2 (x:=1) (by omega)
 have g1:=fun W => pof_any num W (by omega) (by omega)
 have g2:=fun W => pof_any den W (by omega) (by omega)
 have g3:=fun v u W h k => pdiv_any num 1 den 1 v u W h k (show zl num ≤ 1000000 from Nat.le_trans z1 (by omega)) (by omega) (show zl den ≤ 1000000 from Nat.le_trans z2 (by omega)) (by omega) (by omega) (by omega)
 rw [show Rat.divInt (num * ((1 : Nat) : Int)) (((1 : Nat) : Int) * den) = Rat.divInt num den by rw [Int.natCast_one, Int.mul_one, Int.one_mul]] at g3
 unfold RetQ at g1 g2 ⊢
 simp only [Rat.num_intCast, Rat.den_intCast] at g1 g2
 generalize (Rat.divInt num den).num = a at *
 generalize (Rat.divInt num den).den = k at *
 have G1:=Lib.hid g1
 have G2:=Lib.hid g2
 have G3:=Lib.hid g3
 clear g1 g2 g3 z1 z2 z3
 go_enter Tryz.func156, Tryz.ntmps156
 have L:=((Lq.mk0 w).varQ (w.heap.size) (by simp) false none none 0 0 0 0)
 have c00:=L.b0.c30
 have f00:=L.b0.fr 0
 have c01:=L.b0.c31
 have f01:=L.b0.fr 1
 have c02:=L.b0.c32
 have f02:=L.b0.fr 2
 (try go_wp2_with fail)
 refine (G1.out _).mono ?_
 rintro e w1 ⟨vv, rfl, iq, be⟩
 clear c00 f00 c01 f01 c02 f02
 obtain ⟨A1, c1, B1, d1, rfl, _, ia, ib⟩:=iq.form
 replace L:=((L.step be).n ib).n ia
 clear be iq ia ib
 have c00:=L.b0.c30
 have f00:=L.b0.fr 0
 have c01:=L.b0.c31
 have f01:=L.b0.fr 1
 have c02:=L.b0.c32
 have f02:=L.b0.fr 2
 (try go_wp2_with fail)
 refine (G2.out _).mono ?_
 rintro e w2 ⟨vv, rfl, iq, be⟩
 clear c00 f00 c01 f01 c02 f02
 obtain ⟨A2, c2, B2, d2, rfl, _, ia, ib⟩:=iq.form
 replace L:=((L.step be).n ib).n ia
 clear be iq ia ib
 have c00:=L.b0.c30
 have f00:=L.b0.fr 0
 have c01:=L.b0.c31
 have f01:=L.b0.fr 1
 have c02:=L.b0.c32
 have f02:=L.b0.fr 2
 (try go_wp2_with fail)
 refine (G3.out _ _ _ ⟨.slice A1 (zl num) c1, .slice B1 (len 1) d1, rfl, L.getN (by simp), L.getN (by simp)⟩ ⟨.slice A2 (zl den) c2, .slice B2 (len 1) d2, rfl, L.getN (by simp), L.getN (by simp)⟩).mono ?_
 rintro e w3 ⟨vv, rfl, iq, be⟩
 clear c00 f00 c01 f01 c02 f02
 obtain ⟨A3, c3, B3, d3, rfl, _, ia, ib⟩:=iq.form
 replace L:=((L.step be).n ib).n ia
 clear be iq ia ib
 have hl9:=L.b0.lt
 have c00:=L.b0.c30
 have f00:=L.b0.fr 0
 have c01:=L.b0.c31
 have f01:=L.b0.fr 1
 have c02:=L.b0.c32
 have f02:=L.b0.fr 2
 have LN:=L.varQ w3.heap.size rfl (ng a) A3 B3 (zl a) c3 (len k) d3
 have n0:=LN.b0.c30
 have n1:=LN.b0.c31
 have n2:=LN.b0.c32
 go_wp2_with fail
 clear c00 f00 c01 f01 c02 f02
 have LP0:=L.putQ (by omega) (by simp) (ng a) A3 B3 (zl a) c3 (len k) d3
 have LP:=LP0.varQ _ rfl (ng a) A3 B3 (zl a) c3 (len k) d3
 have k0:=LP.tl.b0.c30
 have k1:=LP.tl.b0.c31
 have k2:=LP.tl.b0.c32
 unfold put3 at k0 k1 k2
 exact bodyPost_ret (v:=.agg #[.bool (ng a), .slice A3 (zl a) c3, .slice B3 (len k) d3]) (by simp [results, Tryz.results156, go_sem, k0, k1, k2]) rfl ⟨_, rfl, ⟨_, _, rfl, LP.getN (by simp), LP.getN (by simp)⟩, LP.below⟩
set_option maxHeartbeats 4000000 in
theorem ctang_any (n sg : Int) (j : Nat) (w : World) (hn : 2 ≤ n) (hn2 : n ≤ 10000) (hs : sg = 1 ∨ sg = -1) (hj : j ≤ 1000) :
  Calls Tryz.prog 157 #[.int .i64 n, .int .i64 (j : Int), .int .i64 sg] w (RetQ w (Rat.divInt (tnP n sg j).1 (tnP n sg j).2)):=by
 have hnn : n * n ≤ 10000 * 10000:=Int.mul_le_mul hn2 hn2 (by omega) (by omega)
 have hnn2 : 2 * 2 ≤ n * n:=Int.mul_le_mul hn hn (by omega) (by omega)
 obtain ⟨q, hq⟩ : ∃ q, n * n = q:=⟨_, rfl⟩
 obtain ⟨b, hb⟩ : ∃ b, q + sg = b:=⟨_, rfl⟩
 have w1 : IntKind.i64.wrap (n * n) = q:=by rw [IntKind.wrap_i64]; omega
 have w2 : IntKind.i64.wrap (q + sg) = b:=by rw [IntKind.wrap_i64]; omega
 have w3 : IntKind.i64.wrap (sg * 2) = sg * 2:=by rw [IntKind.wrap_i64]; omega
 obtain ⟨u, hu⟩ : ∃ u, sg * 2 * (j : Int) = u:=⟨_, rfl⟩
 have hub : -2000 ≤ u ∧ u ≤ 2000:=by rcases hs with rfl | rfl <;> omega
 have w4 : IntKind.i64.wrap (sg * 2 * (j : Int)) = u:=by rw [IntKind.wrap_i64]; omega
 have w5 : IntKind.i64.wrap (2 * (j : Int)) = 2 * (j : Int):=by rw [IntKind.wrap_i64]; omega
 obtain ⟨m, hm⟩ : ∃ m : Int, 2 * (j : Int) + 1 = m:=⟨_, rfl⟩
 have w6 : IntKind.i64.wrap (2 * (j : Int) + 1) = m:=by rw [IntKind.wrap_i64]; omega
 rw [hq] at hnn hnn2
 have hmb : m * b ≤ 2001 * 100000001:=Int.mul_le_mul (by omega) (by omega) (by omega) (by omega)
 have hmb2 : 1 * 3 ≤ m * b:=Int.mul_le_mul (by omega) (by omega) (by omega) (by omega)
 obtain ⟨y, hy⟩ : ∃ y, m * b = y:=⟨_, rfl⟩
 rw [hy] at hmb hmb2
 have w7 : IntKind.i64.wrap (m * b) = y:=by rw [IntKind.wrap_i64]; omega
 unfold tnP
 by_cases hj0 : j = 0
 ·subst hj0
  rw [if_pos rfl]
  simp only
  rw [hq, hb]
  have g1:=fun W => cfrac_any n b W (by omega) (by omega) (by omega) (by omega)
  unfold RetQ at g1 ⊢
  generalize (Rat.divInt n b).num = a at *
  generalize (Rat.divInt n b).den = k at *
  have G1:=Lib.hid g1
  clear g1 hy hm hu hb hq hnn hnn2 hmb hmb2 w3 w4 w5 w6 w7 hub
  go_enter Tryz.func157, Tryz.ntmps157
  have L:=((Lq.mk0 w).varQ (w.heap.size) (by simp) false none none 0 0 0 0)
  have c00:=L.b0.c30
  have f00:=L.b0.fr 0
  have c01:=L.b0.c31
  have f01:=L.b0.fr 1
  have c02:=L.b0.c32
  have f02:=L.b0.fr 2
  (try go_wp2_with fail)
  refine (G1.out _).mono ?_
  rintro e w1 ⟨vv, rfl, iq, be⟩
  clear c00 f00 c01 f01 c02 f02
  obtain ⟨A9, c9, B9, d9, rfl, _, ia, ib⟩:=iq.form
  replace L:=((L.step be).n ib).n ia
  clear be iq ia ib
  have c00:=L.b0.c30
  have f00:=L.b0.fr 0
  have c01:=L.b0.c31
  have f01:=L.b0.fr 1
  have c02:=L.b0.c32
  have f02:=L.b0.fr 2
  (try go_wp2_with fail)
  have LP:=L.putQ (by omega) (by first | (simp; done) | (simp; omega)) (ng (a)) A9 B9 (zl (a)) c9 (len (k)) d9
  have k0:=LP.b0.c30
  have k1:=LP.b0.c31
  have k2:=LP.b0.c32
  unfold put3 at k0 k1 k2
  exact bodyPost_ret (v:=.agg #[.bool (ng (a)), .slice A9 (zl (a)) c9, .slice B9 (len (k)) d9]) (by simp [results, Tryz.results157, go_sem, k0, k1, k2]) rfl ⟨_, rfl, ⟨_, _, rfl, LP.getN (by simp), LP.getN (by simp)⟩, LP.below⟩
 ·rw [if_neg hj0]
  simp only
  rw [hq, hb, hu, hm, hy]
  have q0 : ((j : Int) == 0) = false:=by rw [beq_eq_false_iff_ne]; omega
  have g1:=fun W => cfrac_any u y W (by omega) (by omega) (by omega) (by omega)
  unfold RetQ at g1 ⊢
  generalize (Rat.divInt u y).num = a at *
  generalize (Rat.divInt u y).den = k at *
  have G1:=Lib.hid g1
  clear g1 hy hm hu hb hq hnn hnn2 hmb hmb2 hub
  go_enter Tryz.func157, Tryz.ntmps157
  have L:=((Lq.mk0 w).varQ (w.heap.size) (by simp) false none none 0 0 0 0)
  have c00:=L.b0.c30
  have f00:=L.b0.fr 0
  have c01:=L.b0.c31
  have f01:=L.b0.fr 1
  have c02:=L.b0.c32
  have f02:=L.b0.fr 2
  (try go_wp2_with fail)
  refine (G1.out _).mono ?_
  rintro e w1 ⟨vv, rfl, iq, be⟩
  clear c00 f00 c01 f01 c02 f02
  obtain ⟨A9, c9, B9, d9, rfl, _, ia, ib⟩:=iq.form
  replace L:=((L.step be).n ib).n ia
  clear be iq ia ib
  have c00:=L.b0.c30
  have f00:=L.b0.fr 0
  have c01:=L.b0.c31
  have f01:=L.b0.fr 1
  have c02:=L.b0.c32
  have f02:=L.b0.fr 2
  (try go_wp2_with fail)
  have LP:=L.putQ (by omega) (by first | (simp; done) | (simp; omega)) (ng (a)) A9 B9 (zl (a)) c9 (len (k)) d9
  have k0:=LP.b0.c30
  have k1:=LP.b0.c31
  have k2:=LP.b0.c32
  unfold put3 at k0 k1 k2
  exact bodyPost_ret (v:=.agg #[.bool (ng (a)), .slice A9 (zl (a)) c9, .slice B9 (len (k)) d9]) (by simp [results, Tryz.results157, go_sem, k0, k1, k2]) rfl ⟨_, rfl, ⟨_, _, rfl, LP.getN (by simp), LP.getN (by simp)⟩, LP.below⟩
set_option maxHeartbeats 4000000 in
theorem carea_any (n : Int) (j : Nat) (w : World) (hn : 2 ≤ n) (hn2 : n ≤ 10000) (hj : j ≤ 1000) :
  Calls Tryz.prog 100 #[.int .i64 n, .int .i64 (j : Int)] w (RetQ w (Rat.divInt (tnP n (-1) j).1 (tnP n (-1) j).2)):=by
 have g1:=fun W => ctang_any n (-1) j W hn hn2 (by omega) hj
 unfold RetQ at g1 ⊢
 generalize (Rat.divInt (tnP n (-1) j).1 (tnP n (-1) j).2).num = a at *
 generalize (Rat.divInt (tnP n (-1) j).1 (tnP n (-1) j).2).den = k at *
 have G1:=Lib.hid g1
 clear g1
 go_enter Tryz.func100, Tryz.ntmps100
 have L:=((Lq.mk0 w).varQ (w.heap.size) (by simp) false none none 0 0 0 0)
 have c00:=L.b0.c30
 have f00:=L.b0.fr 0
 have c01:=L.b0.c31
 have f01:=L.b0.fr 1
 have c02:=L.b0.c32
 have f02:=L.b0.fr 2
 (try go_wp2_with fail)
 refine (G1.out _).mono ?_
 rintro e w1 ⟨vv, rfl, iq, be⟩
 clear c00 f00 c01 f01 c02 f02
 obtain ⟨A9, c9, B9, d9, rfl, _, ia, ib⟩:=iq.form
 replace L:=((L.step be).n ib).n ia
 clear be iq ia ib
 have c00:=L.b0.c30
 have f00:=L.b0.fr 0
 have c01:=L.b0.c31
 have f01:=L.b0.fr 1
 have c02:=L.b0.c32
 have f02:=L.b0.fr 2
 (try go_wp2_with fail)
 have LP:=L.putQ (by omega) (by first | (simp; done) | (simp; omega)) (ng (a)) A9 B9 (zl (a)) c9 (len (k)) d9
 have k0:=LP.b0.c30
 have k1:=LP.b0.c31
 have k2:=LP.b0.c32
 unfold put3 at k0 k1 k2
 exact bodyPost_ret (v:=.agg #[.bool (ng (a)), .slice A9 (zl (a)) c9, .slice B9 (len (k)) d9]) (by simp [results, Tryz.results100, go_sem, k0, k1, k2]) rfl ⟨_, rfl, ⟨_, _, rfl, LP.getN (by simp), LP.getN (by simp)⟩, LP.below⟩
def okW (p : Int) : Bool:=decide (0 ≤ p) && decide (p ≤ 4224)
set_option maxHeartbeats 1000000 in
theorem cperm_any (p : Int) (w : World) :
  Calls Tryz.prog 153 #[.int .i64 p] w (fun e w' => e = .returned (.bool (okW p)) ∧ w = w'):=by
 unfold okW
 by_cases q1 : 0 ≤ p
 ·have b1 : decide (0 ≤ p) = true:=decide_eq_true q1
  rw [b1, Bool.true_and]
  go_enter Tryz.func153, Tryz.ntmps153
  go_wp2_with fail
  go_ret
  exact ⟨rfl, rfl⟩
 ·have b1 : decide (0 ≤ p) = false:=decide_eq_false q1
  rw [b1, Bool.false_and]
  go_enter Tryz.func153, Tryz.ntmps153
  go_wp2_with fail
  go_ret
  exact ⟨rfl, rfl⟩

theorem plainP (a : Int) (F : Nat) (n : Int) : Plain #[.int .i64 a, .func (.func F) #[] #[], .int .i64 n]:=fun j x => by
 match j with
 | 0 => simp
 | 1 => simp
 | 2 => simp
 | j + 3 => simp
theorem Lq.varP {w0 w : World} {ns : List (Value × Nat)} {zs : List (Value × Int)} {qs : List (Value × Int × Nat)} {bs : List (Nat × TypeId × Array Value)} (h : Lq w0 w ns zs qs bs) (g : Nat) (hg : g = w.heap.size) (a : Int) (F : Nat) (n : Int) : Lq w0 (w.alloc (.cells #[.int .i64 a, .func (.func F) #[] #[], .int .i64 n] 115)) ns zs qs ((g, 115, #[.int .i64 a, .func (.func F) #[] #[], .int .i64 n]) :: bs):=h.var g hg _ _ (plainP _ _ _)
theorem Lq.subs {w0 w : World} {ns : List (Value × Nat)} {zs : List (Value × Int)} {qs : List (Value × Int × Nat)} {bs : List (Nat × TypeId × Array Value)} (h : Lq w0 w ns zs qs bs) {ns' : List (Value × Nat)} {bs' : List (Nat × TypeId × Array Value)} (h1 : ∀ p ∈ ns', p ∈ ns) (h2 : ∀ b ∈ bs', b ∈ bs) : Lq w0 w ns' [] [] bs':=
 ⟨h.below, fun x hx => h.ns x (h1 x hx), fun _ x => (by cases x), fun _ x => (by cases x), fun x hx => h.bs x (h2 x hx)⟩

set_option maxHeartbeats 16000000 in
theorem csum_any (F : Nat) (hen : ∀ args w, (callFunc F args).run Tryz.prog w = .ok (.enter F args) w) (p : Nat → Int × Int) (n fac S : Int) (v : Nat) (w : World) (hg : GdP p) (hS : smP p 600 0 (2 ^ v) 0 = some S) (hfac : AbP fac 10) (hv : v ≤ 3900) (hT : Tab w) (hf : ∀ (j : Nat) W, j ≤ 1000 → Calls Tryz.prog F #[.int .i64 n, .int .i64 (j : Int)] W (RetQ W (Rat.divInt (p j).1 (p j).2))) :
  Calls Tryz.prog 154 #[.agg #[.int .i64 fac, .func (.func F) #[] #[], .int .i64 n], .int .i64 (v : Int)] w (RetD8 w (mkM (S * fac) 0) (mkE (S * fac) 0)):=by
 have hfb : -1024 ≤ fac ∧ fac ≤ 1024:=by
  have e10 : (2 : Nat) ^ 10 = 1024:=by decide
  unfold AbP at hfac
  rw [e10] at hfac
  omega
 have hSb:=smP_abs hg 600 0 _ _ _ (sp_first hS)
 have HR0:=sp_first hS
 have HT:=Lib.hid (fun W (hW : Below w.heap.size w W) => hT.mono hW)
 have g1:=fun W (hW : Below w.heap.size w W) => dof_any 1 W (by omega) (by omega) (hT.mono hW)
 obtain ⟨u1, u2, u3⟩:=nf_up (k:=v) (by omega)
 obtain ⟨_, y2, y3, y4, _, _⟩:=nf (t:=1) (v:=0) (by unfold AbP; decide) (by omega)
 have g2:=fun x W h (hW : Below w.heap.size w W) => dshift_any (mkM 1 0) (mkE 1 0) (v : Int) x W h (by omega) (by omega) (by omega) (hT.mono hW)
 rw [u1, u2, u3] at g2
 have g3:=fun W (hW : Below w.heap.size w W) => dof_any fac W (by omega) (by omega) (hT.mono hW)
 obtain ⟨f1, f2, f3, f4, _, _⟩:=nf hfac (by omega)
 obtain ⟨s1, s2, s3, s4, _, _⟩:=nf hSb (by omega)
 obtain ⟨m1, m2, m3⟩:=nf_mul hSb hfac (by omega)
 have g4:=fun x y W h k (hW : Below w.heap.size w W) => dmul_any (mkM S 0) (mkE S 0) (mkM fac 0) (mkE fac 0) x y W h k (by omega) (by omega) (by omega) (by omega) (hT.mono hW)
 rw [m1, m2, m3] at g4
 clear hfb hfac u1 u2 u3 y2 y3 y4 f1 f2 f3 f4 s1 s2 s3 s4 m1 m2 m3 hS hSb
 generalize mkM (S * fac) 0 = Mr at *
 generalize mkE (S * fac) 0 = Er at *
 generalize mkM fac 0 = Mf at *
 generalize mkE fac 0 = Ef at *
 generalize mkM 1 0 = M1 at *
 generalize mkE 1 0 = E1 at *
 generalize hP : (2 : Int) ^ v = P at *
 obtain ⟨M, hM⟩ : ∃ z, mkM P 0 = z:=⟨_, rfl⟩
 obtain ⟨E, hE⟩ : ∃ z, mkE P 0 = z:=⟨_, rfl⟩
 rw [hM, hE] at g2
 have HR:=Lib.hid (And.intro HR0 (And.intro (And.intro hM hE) nf00))
 have G1:=Lib.hid g1
 have G2:=Lib.hid g2
 have G3:=Lib.hid g3
 have G4:=Lib.hid g4
 have HF:=Lib.hid hf
 have HG:=Lib.hid hg
 have HV:=Lib.hid hv
 clear g1 g2 g3 g4 hf hg hv HR0 hM hE hP hT
 go_enter Tryz.func154, Tryz.ntmps154
 have L:=((((Lq.mk0 w).varP (w.heap.size) (by simp) fac F n).varD (w.heap.size + 1) (by simp) false none 0 0 0).varD (w.heap.size + 2) (by simp) false none 0 0 0)
 have c00:=L.b0.c30
 have f00:=L.b0.fr 0
 have c01:=L.b0.c31
 have f01:=L.b0.fr 1
 have c02:=L.b0.c32
 have f02:=L.b0.fr 2
 (try go_wp2_with fail)
 refine (G1.out _ L.below).mono ?_
 rintro e w1 ⟨v1, rfl, id, be⟩
 clear c00 f00 c01 f01 c02 f02
 replace L:=L.step be
 clear be
 (try go_wp2_with fail)
 refine (G2.out _ _ id L.below).mono ?_
 rintro e w2 ⟨v2, rfl, iz, be⟩
 obtain ⟨A1, c1, rfl, _, in9⟩:=iz.form
 replace L:=(L.step be).n in9
 clear be iz in9 id
 have hl9:=L.b0.lt
 replace L:=L.varD w2.heap.size rfl (ng M) A1 (zl M) c1 E
 have c00:=L.b0.c30
 have c01:=L.b0.c31
 have c02:=L.b0.c32
 go_wp2_with fail
 clear c00 c01 c02
 obtain ⟨gt, hgt⟩ : ∃ g9, w2.heap.size = g9:=⟨_, rfl⟩
 rw [hgt] at L hl9 ⊢
 clear hgt
 clear G1 G2
 go_loopw [8] (fun i wr => ∃ (f k : Nat) (t s M E N K : Int) (A1 A2 : Option Addr) (c1 c2 : Nat), i = .int .i64 (k : Int) ∧ Lq w wr [(.slice A1 (zl M) c1, M.natAbs), (.slice A2 (zl N) c2, N.natAbs)] [] [] [(gt, 26, #[.bool (ng M), .slice A1 (zl M) c1, .int .i64 E]), (w.heap.size + 2, 26, #[.bool (ng N), .slice A2 (zl N) c2, .int .i64 K]), (w.heap.size, 115, #[.int .i64 fac, .func (.func F) #[] #[], .int .i64 n]), (w.heap.size + 1, 26, #[.bool false, .slice none 0 0, .int .i64 0])] ∧ Hid (SpI p v f k t s S ∧ (mkM t 0 = M ∧ mkE t 0 = E) ∧ mkM s 0 = N ∧ mkE s 0 = K)) (fun i _ => 700 - (intOf i).toNat)
 case atStart =>
  have zz : zl 0 = 0:=len_zero
  have LN:=L.n (v:=.slice none 0 0) (x:=0) (IsN.zero _)
  refine ⟨600, 0, P, 0, M, E, 0, 0, A1, none, c1, 0, by go_num, ?_, HR⟩
  rw [zz]
  exact LN.subs (by simp) (by simp [ng])
 case round =>
  clear L HR
  obtain ⟨f, k, t, s, M, E, N, K, A1, A2, c1, c2, rfl, L, HR⟩:=hrel
  obtain ⟨hI, ⟨hM, hE⟩, hN, hK⟩:=HR.out
  have hv:=HV.out
  obtain ⟨ht, hs, hfk, _⟩:=id hI
  obtain ⟨_, z2, z3, z4, _, _⟩:=nf ht (by omega)
  obtain ⟨q1, q2⟩:=nf_rat ht (by omega)
  obtain ⟨g, rfl, hk, ht2, n1, n2⟩:=hI.step HG.out
  obtain ⟨r1, r2, r3, r4, _, _⟩:=nf ht2 (by omega)
  have r5:=nf_sign ht2 (by omega)
  obtain ⟨p1, p2, p3⟩:=HG.out k (by omega)
  have zt:=ht.zl
  have hb9:=L.tl.b0.lt
  have hc9:=L.b0.lt
  have o1:=fun x W h => drat_any (mkM t 0) (mkE t 0) x W h (by omega) (by omega)
  rw [q1, q2] at o1
  have o2:=fun W => HF.out k W (by omega)
  unfold RetQ at o2
  have cs:=cut_st p k t p2
  obtain ⟨d, hd⟩ : ∃ d : Nat, (p k).2 = (d : Int):=⟨(p k).2.toNat, by omega⟩
  have ds:=divInt_small (p k).1 d 2 (show zl (p k).1 ≤ 2 from len_le2 (by omega)) (len_le2 (by omega)) (by omega)
  rw [← hd] at ds
  have dp:=den_pos' (Rat.divInt (p k).1 (p k).2)
  generalize (Rat.divInt (p k).1 (p k).2).num = a at *
  generalize (Rat.divInt (p k).1 (p k).2).den = b at *
  have o3:=fun x y W h j => pmul_any t 1 a b x y W h j (by omega) (show len 1 ≤ 1000000 from Nat.le_trans (len_le1 (by omega)) (by omega)) (by omega) (by omega) (by omega) dp
  unfold RetQ at o3
  have sz:=divInt_small (t * a) (1 * b) 600 (by have:=zl_mul t a; omega) (by rw [Nat.one_mul]; omega) (by omega)
  rw [Int.natCast_mul] at sz
  have xp:=den_pos' (Rat.divInt (t * a) (((1 : Nat) : Int) * (b : Int)))
  have xe:=rat_self (Rat.divInt (t * a) (((1 : Nat) : Int) * (b : Int)))
  generalize Rat.divInt (t * a) (((1 : Nat) : Int) * (b : Int)) = X at *
  have o4:=fun x W h (hW : Below w.heap.size w W) => gfloorR_any X.num X.den 0 x W h (by omega) (by omega) xp (by omega) (by omega) (HT.out W hW)
  obtain ⟨e1, e2, e3⟩:=g_yes (p:=0) (by decide) (cutQ (Rat.divInt X.num (X.den : Int)) 0)
  rw [e1, e2, e3, xe, cs, Int.neg_zero, r1] at o4
  have o5:=fun x W h => dsign_any (mkM (stP p k t) 0) (mkE (stP p k t) 0) x W h (by omega)
  have hsu:=ht2.up (show v ≤ v + k by omega)
  obtain ⟨a1, a2, a3⟩:=nf_add hs hsu (by omega)
  obtain ⟨_, b2, b3, b4, _, _⟩:=nf hs (by omega)
  have o6:=fun x y W h j (hW : Below w.heap.size w W) => dadd_any (mkM s 0) (mkE s 0) (mkM (stP p k t) 0) (mkE (stP p k t) 0) x y W h j (by omega) (by omega) (by omega) (by omega) (HT.out W hW)
  rw [a1, a2, a3] at o6
  have w3 : IntKind.i64.wrap ((k : Int) + 1) = (k : Int) + 1:=by rw [IntKind.wrap_i64]; omega
  clear q1 q2 z2 z3 z4 p1 p2 p3 hd ds cs sz xp xe e1 e2 e3 r1 r2 r3 r4 a1 a2 a3 b2 b3 b4 hsu zt dp hI hv ht hs ht2
  obtain ⟨t2, ht2⟩ : ∃ z, stP p k t = z:=⟨_, rfl⟩
  rw [ht2] at n1 n2 r5 o4 o5 o6
  obtain ⟨s2, hs2⟩ : ∃ z, s + t2 = z:=⟨_, rfl⟩
  rw [hs2] at n2 o6
  rw [hM, hE] at o1
  rw [hN, hK] at o6
  obtain ⟨M2, hM2⟩ : ∃ z, mkM t2 0 = z:=⟨_, rfl⟩
  obtain ⟨E2, hE2⟩ : ∃ z, mkE t2 0 = z:=⟨_, rfl⟩
  obtain ⟨N2, hN2⟩ : ∃ z, mkM s2 0 = z:=⟨_, rfl⟩
  obtain ⟨K2, hK2⟩ : ∃ z, mkE s2 0 = z:=⟨_, rfl⟩
  rw [hM2, hE2] at o4 o5 o6
  rw [hM2] at r5
  rw [hN2, hK2] at o6
  generalize X.num = xa at *
  generalize X.den = xd at *
  obtain ⟨sg9, hsg9⟩ : ∃ z, cmpI M2 0 = z:=⟨_, rfl⟩
  rw [hsg9] at o5 r5
  have O1:=Lib.hid o1
  have O2:=Lib.hid o2
  have O3:=Lib.hid o3
  have O4:=Lib.hid o4
  have O5:=Lib.hid o5
  have O6:=Lib.hid o6
  have HQ:=Lib.hid (And.intro (And.intro hN hK) (And.intro n1 n2))
  have HM2:=Lib.hid (And.intro (And.intro hM2 hE2) (And.intro hN2 hK2))
  clear o1 o2 o3 o4 o5 o6 hsg9 n1 n2 hM hE hN hK hM2 hE2 hN2 hK2 hs2 ht2 HR hfk X
  have nb : w.heap.size + 2 ≠ gt:=by omega
  (try go_wp2_with fail)
  replace L:=L.drew
  have cel00:=L.b0.c30
  have f00:=L.b0.fr 0
  have cel01:=L.b0.c31
  have f01:=L.b0.fr 1
  have cel02:=L.b0.c32
  have f02:=L.b0.fr 2
  have cel20:=L.tl.tl.b0.c30
  have cel21:=L.tl.tl.b0.c31
  have cel22:=L.tl.tl.b0.c32
  go_cut [30] from 18 to 30 (fun s9 wx => ∃ (A3 : Option Addr) (c3 : Nat), Lq w wx [(.slice A3 (zl M2) c3, M2.natAbs), (.slice A2 (zl N) c2, N.natAbs)] [] [] [(gt, 26, #[.bool (ng M2), .slice A3 (zl M2) c3, .int .i64 E2]), (w.heap.size + 2, 26, #[.bool (ng N), .slice A2 (zl N) c2, .int .i64 K]), (w.heap.size, 115, #[.int .i64 fac, .func (.func F) #[] #[], .int .i64 n]), (w.heap.size + 1, 26, #[.bool false, .slice none 0 0, .int .i64 0])])
  case first =>
   go_region_with (first | (go_at_call 193; (with_reducible refine (O1.out _ _ ?_ ).mono ?_); (· (refine isD_n (L.getN ?_); (repeat (first | (with_reducible exact List.mem_cons_self) | apply List.mem_cons_of_mem)))); rintro e9 wh ⟨vh, rfl, iq, be⟩; obtain ⟨Af, cf, Bf, df, rfl, _, _, _⟩:=iq.form; replace L:=(L.step be).q iq; clear be iq; (try (have xx00:=L.b0.c30; have yy00:=L.b0.fr 0; have xx01:=L.b0.c31; have yy01:=L.b0.fr 1; have xx02:=L.b0.c32; have yy02:=L.b0.fr 2)); (try (have xx20:=L.tl.tl.b0.c30; have xx21:=L.tl.tl.b0.c31; have xx22:=L.tl.tl.b0.c32))) | ((with_reducible refine (O2.out _ ).mono ?_); rintro e9 wh ⟨vh, rfl, iq, be⟩; obtain ⟨Af, cf, Bf, df, rfl, _, _, _⟩:=iq.form; replace L:=(L.step be).q iq; clear be iq; (try (have xx00:=L.b0.c30; have yy00:=L.b0.fr 0; have xx01:=L.b0.c31; have yy01:=L.b0.fr 1; have xx02:=L.b0.c32; have yy02:=L.b0.fr 2)); (try (have xx20:=L.tl.tl.b0.c30; have xx21:=L.tl.tl.b0.c31; have xx22:=L.tl.tl.b0.c32))) | (go_at_call 192; (with_reducible refine (O3.out _ _ _ ?_ ?_ ).mono ?_); (· (refine L.getQ ?_; (repeat (first | (with_reducible exact List.mem_cons_self) | apply List.mem_cons_of_mem)))); (· (refine L.getQ ?_; (repeat (first | (with_reducible exact List.mem_cons_self) | apply List.mem_cons_of_mem)))); rintro e9 wh ⟨vh, rfl, iq, be⟩; obtain ⟨Af, cf, Bf, df, rfl, _, _, _⟩:=iq.form; replace L:=(L.step be).q iq; clear be iq; (try (have xx00:=L.b0.c30; have yy00:=L.b0.fr 0; have xx01:=L.b0.c31; have yy01:=L.b0.fr 1; have xx02:=L.b0.c32; have yy02:=L.b0.fr 2)); (try (have xx20:=L.tl.tl.b0.c30; have xx21:=L.tl.tl.b0.c31; have xx22:=L.tl.tl.b0.c32))) | (go_at_call 147; (with_reducible refine (O4.out _ _ ?_ ?_ ).mono ?_); (· (refine L.getQ ?_; (repeat (first | (with_reducible exact List.mem_cons_self) | apply List.mem_cons_of_mem)))); (· exact L.below); rintro e9 wh ⟨vh, rfl, id, be⟩; obtain ⟨A3, c3, rfl, _, in9⟩:=id.form; replace L:=(L.step be).n in9; clear be id in9; (try (have xx00:=L.b0.c30; have yy00:=L.b0.fr 0; have xx01:=L.b0.c31; have yy01:=L.b0.fr 1; have xx02:=L.b0.c32; have yy02:=L.b0.fr 2)); (try (have xx20:=L.tl.tl.b0.c30; have xx21:=L.tl.tl.b0.c31; have xx22:=L.tl.tl.b0.c32))))
   all_goals
    have P:=L.putD (by omega) (by first | (simp; done) | (simp; omega)) (ng M2) A3 (zl M2) c3 E2
    unfold put3 at P
    go_wp2_with fail
    go_meet
    exact ⟨A3, c3, P.subs (by simp) (by simp)⟩
  case rest =>
   clear L
   obtain ⟨A3, c3, L⟩:=hcut
   have hgt:=L.b0.lt
   have cel00:=L.b0.c30
   have f00:=L.b0.fr 0
   have cel01:=L.b0.c31
   have f01:=L.b0.fr 1
   have cel02:=L.b0.c32
   have f02:=L.b0.fr 2
   (try go_wp2_with fail)
   refine (O5.out _ _ (isD_n (m:=M2) (e:=E2) (s:=.slice A3 (zl M2) c3) (L.getN (by simp)))).mono ?_
   rintro e w12 ⟨rfl, be⟩
   clear cel00 f00 cel01 f01 cel02 f02
   replace L:=L.step be
   clear be
   by_cases h0 : t2 = 0
   ·have r6 : (sg9 == 0) = true:=r5.trans (decide_eq_true h0)
    obtain rfl:=HQ.out.2.1 h0
    have G4':=G4.out
    rw [HQ.out.1.1, HQ.out.1.2] at G4'
    have G5:=Lib.hid G4'
    clear G4' G4 r5 HQ HM2 O1 O2 O3 O4 O5 O6
    replace L:=L.swap
    have cel00:=L.b0.c30
    have f00:=L.b0.fr 0
    have cel01:=L.b0.c31
    have f01:=L.b0.fr 1
    have cel02:=L.b0.c32
    have f02:=L.b0.fr 2
    have cel20:=L.tl.tl.b0.c30
    have cel21:=L.tl.tl.b0.c31
    have cel22:=L.tl.tl.b0.c32
    (try go_wp2_with fail)
    replace L:=L.drew
    clear cel00 f00 cel01 f01 cel02 f02 cel20 cel21 cel22
    have cel00:=L.b0.c30
    have f00:=L.b0.fr 0
    have cel01:=L.b0.c31
    have f01:=L.b0.fr 1
    have cel02:=L.b0.c32
    have f02:=L.b0.fr 2
    have cel20:=L.tl.tl.b0.c30
    have cel21:=L.tl.tl.b0.c31
    have cel22:=L.tl.tl.b0.c32
    go_region_with (first | (go_at_call 57; (with_reducible refine (G3.out _ ?_ ).mono ?_); (· exact L.below); rintro e9 wh ⟨vh, rfl, id, be⟩; obtain ⟨A4, c4, rfl, _, in9⟩:=id.form; replace L:=(L.step be).n in9; clear be id in9; (try (have xx00:=L.b0.c30; have yy00:=L.b0.fr 0; have xx01:=L.b0.c31; have yy01:=L.b0.fr 1; have xx02:=L.b0.c32; have yy02:=L.b0.fr 2)); (try (have xx20:=L.tl.tl.b0.c30; have xx21:=L.tl.tl.b0.c31; have xx22:=L.tl.tl.b0.c32))) | (go_at_call 81; (with_reducible refine (G5.out _ _ _ ?_ ?_ ?_ ).mono ?_); (· (refine isD_n (L.getN ?_); (repeat (first | (with_reducible exact List.mem_cons_self) | apply List.mem_cons_of_mem)))); (· (refine isD_n (L.getN ?_); (repeat (first | (with_reducible exact List.mem_cons_self) | apply List.mem_cons_of_mem)))); (· exact L.below); rintro e9 wh ⟨vh, rfl, id, be⟩; obtain ⟨A5, c5, rfl, _, in9⟩:=id.form; replace L:=(L.step be).n in9; clear be id in9; (try (have xx00:=L.b0.c30; have yy00:=L.b0.fr 0; have xx01:=L.b0.c31; have yy01:=L.b0.fr 1; have xx02:=L.b0.c32; have yy02:=L.b0.fr 2)); (try (have xx20:=L.tl.tl.b0.c30; have xx21:=L.tl.tl.b0.c31; have xx22:=L.tl.tl.b0.c32))))
    all_goals
     clear cel00 f00 cel01 f01 cel02 f02 cel20 cel21 cel22
     have P:=L.putD (by omega) (by first | (simp; done) | (simp; omega)) (ng Mr) A5 (zl Mr) c5 Er
     have p0:=P.b0.c30
     have p1:=P.b0.c31
     have p2:=P.b0.c32
     have q0:=P.tl.tl.tl.b0.c30
     have q1:=P.tl.tl.tl.b0.c31
     have q2:=P.tl.tl.tl.b0.c32
     have q3:=P.tl.tl.tl.b0.fr 0
     have q4:=P.tl.tl.tl.b0.fr 1
     have q5:=P.tl.tl.tl.b0.fr 2
     unfold put3 at p0 p1 p2 q0 q1 q2 q3 q4 q5 P
     go_wp2_with fail
     replace L:=P.pull2.swap.pull2.pull2
     clear P p0 p1 p2 q0 q1 q2 q3 q4 q5
     have L4 : Lq w _ _ _ _ _:=L.subs (ns':=[(.slice A5 (zl Mr) c5, Mr.natAbs)]) (bs':=[(w.heap.size + 1, 26, #[.bool false, .slice none 0 0, .int .i64 0])]) (by simp) (by simp)
     clear L
     have L:=L4
     have LP:=L.putD (by omega) (by first | (simp; done) | (simp; omega)) (ng Mr) A5 (zl Mr) c5 (Er)
     have k0:=LP.b0.c30
     have k1:=LP.b0.c31
     have k2:=LP.b0.c32
     unfold put3 at k0 k1 k2
     exact bodyPost_ret (v:=.agg #[.bool (ng Mr), .slice A5 (zl Mr) c5, .int .i64 (Er)]) (by simp [results, Tryz.results154, go_sem, k0, k1, k2]) rfl ⟨_, rfl, isD_n LP.hn, LP.below⟩
   ·have r6 : (sg9 == 0) = false:=r5.trans (decide_eq_false h0)
    have HI:=Lib.hid (HQ.out.2.2 h0)
    clear r5 HQ O1 O2 O3 O4 O5 G3 G4
    replace L:=L.swap
    have cel00:=L.b0.c30
    have f00:=L.b0.fr 0
    have cel01:=L.b0.c31
    have f01:=L.b0.fr 1
    have cel02:=L.b0.c32
    have f02:=L.b0.fr 2
    have cel10:=L.tl.b0.c30
    have cel11:=L.tl.b0.c31
    have cel12:=L.tl.b0.c32
    go_wp2_with fail
    refine (O6.out _ _ _ (isD_n (m:=N) (e:=K) (s:=.slice A2 (zl N) c2) (L.getN (by simp))) (isD_n (m:=M2) (e:=E2) (s:=.slice A3 (zl M2) c3) (L.getN (by simp))) L.below).mono ?_
    rintro e w13 ⟨vv, rfl, id, be⟩
    clear cel00 f00 cel01 f01 cel02 f02 cel10 cel11 cel12
    obtain ⟨A6, c6, rfl, _, in9⟩:=id.form
    replace L:=(L.step be).n in9
    clear be id in9
    have cel00:=L.b0.c30
    have f00:=L.b0.fr 0
    have cel01:=L.b0.c31
    have f01:=L.b0.fr 1
    have cel02:=L.b0.c32
    have f02:=L.b0.fr 2
    replace L:=L.putD (by omega) (by first | (simp; done) | (simp; omega)) (ng N2) A6 (zl N2) c6 K2
    unfold put3 at L
    go_wp2_with fail
    go_roundw
    case rel => exact ⟨g, k + 1, t2, s2, M2, E2, N2, K2, A3, A6, c3, c6, by go_num, L.subs (by simp) (by simp), Lib.hid ⟨HI.out, HM2.out⟩⟩
    case measure => simp [intOf]; omega
def RowP (w : World) (v : Value) (l : List (Int × Nat × Int)) : Prop:=∃ g c, v = .slice (some ⟨g, 0, none⟩) l.length c ∧ g < w.heap.size ∧ ∀ (j : Nat) (x : Int × Nat × Int), l[j]? = some x → w.cell? ⟨g, 3 * j, none⟩ = some (.int .i64 x.1) ∧ w.cell? ⟨g, 3 * j + 1, none⟩ = some (.func (.func x.2.1) #[] #[]) ∧ w.cell? ⟨g, 3 * j + 2, none⟩ = some (.int .i64 x.2.2)
def ttl : List Int → Int → Int
 | [], s => s
 | c :: l, s => ttl l (s + c)
def SmI (cs : List Int) (u t : Nat) (s T : Int) : Prop:=AbP s (u + t) ∧ ttl (cs.drop t) s = T
theorem SmI.step {cs : List Int} {u t : Nat} {s T c : Int} (h : SmI cs u t s T) (hc : cs[t]? = some c) (hb : AbP c u) : SmI cs u (t + 1) (s + c) T:=by
 refine ⟨h.1.add (hb.up (by omega)), ?_⟩
 have h2:=h.2
 obtain ⟨hl, e⟩:=List.getElem?_eq_some_iff.1 hc
 rw [List.drop_eq_getElem_cons hl, e, ttl] at h2
 exact h2
theorem SmI.last {cs : List Int} {u : Nat} {s T : Int} (h : SmI cs u cs.length s T) : s = T:=by
 have h2:=h.2
 rw [List.drop_length, ttl] at h2
 exact h2
theorem lo_out (T : Int) (k : Nat) {m e : Int} (h : dq m e = dq (T - 262144) (-((k + 32 : Nat) : Int))) : cutQ (dq m e) (k : Int) = loC T:=by
 rw [h, cutD_down 32 (by omega)]
 rfl
theorem hi_out (T : Int) (k : Nat) {m e : Int} (h : dq m e = dq (T + 262144) (-((k + 32 : Nat) : Int))) : -(cutQ (-(dq m e)) (k : Int)) = hiC T:=by
 rw [h, ← dq_neg, cutD_down 32 (by omega)]
 rfl
theorem loC_abs {T : Int} {u : Nat} (h : AbP T u) (hu : 18 ≤ u) : AbP (loC T) (u + 1) ∧ AbP (hiC T) (u + 1):=by
 have e0 : (262144 : Int) = ((2 ^ 18 : Nat) : Int):=by decide
 have h1 : AbP 262144 u:=AbP.up (j:=18) (by unfold AbP; decide) hu
 have a1:=h.add h1.neg
 have a2:=h.add h1
 rw [← Int.sub_eq_add_neg] at a1
 unfold AbP at *
 unfold loC hiC cdv
 have x1 : ((T - 262144) / 4294967296).natAbs ≤ (T - 262144).natAbs:=Int.natAbs_ediv_le_natAbs _ _
 have x2 : (-(T + 262144) / 4294967296).natAbs ≤ (-(T + 262144)).natAbs:=Int.natAbs_ediv_le_natAbs _ _
 rw [Int.natAbs_neg] at x2 ⊢
 exact ⟨Nat.le_trans x1 a1, Nat.le_trans x2 a2⟩

set_option maxHeartbeats 16000000 in
theorem cencl_yes (k : Nat) (l : List (Int × Nat × Int)) (cs : List Int) (T : Int) (vl : Value) (w : World) (hk : k ≤ 900) (hl : RowP w vl l) (hlen : cs.length = l.length) (hn : l.length ≤ 100) (hT : Tab w) (hb : ∀ c ∈ cs, AbP c 1600) (hsum : ttl cs 0 = T) (hf : ∀ (j : Nat) x c W, l[j]? = some x → cs[j]? = some c → Below w.heap.size w W → Calls Tryz.prog 154 #[.agg #[.int .i64 x.1, .func (.func x.2.1) #[] #[], .int .i64 x.2.2], .int .i64 ((k + 32 : Nat) : Int)] W (RetD8 W (mkM c 0) (mkE c 0))) :
    Calls Tryz.prog 98 #[.int .i64 (k : Int), vl] w (RetIE w (mkM (loC T) (-(k : Int))) (mkE (loC T) (-(k : Int))) (mkM (hiC T) (-(k : Int))) (mkE (hiC T) (-(k : Int))) 0):=by
  obtain ⟨g, c, rfl, hg, hrow⟩:=hl
  obtain ⟨q, hq⟩ : ∃ q, k + 32 = q:=⟨_, rfl⟩
  obtain ⟨n, hn2⟩ : ∃ n, l.length = n:=⟨_, rfl⟩
  have hTb : AbP T 1700:=by
    have hx : ∀ (r : List Int) (s : Int) (u : Nat), (∀ c ∈ r, AbP c 1600) → AbP s (1600 + u) → AbP (ttl r s) (1600 + (u + r.length)):=fun r => by
      induction r with
      | nil => intro s u _ h; exact h
      | cons c r ih =>
        intro s u h1 h2
        rw [ttl]
        have:=ih (s + c) (u + 1) (fun x hx => h1 x (List.mem_cons_of_mem _ hx)) (h2.add ((h1 c List.mem_cons_self).up (by omega)))
        rw [List.length_cons, show u + (r.length + 1) = u + 1 + r.length by omega]
        exact this
    have:=hx cs 0 0 hb (AbP.zero _)
    rw [hsum] at this
    exact this.up (by omega)
  obtain ⟨lb1, lb2⟩:=loC_abs hTb (by omega)
  have mb : AbP 262144 1700:=AbP.up (j:=18) (by unfold AbP; decide) (by omega)
  have HP0:=fun W => cperm_any (k : Int) W
  have hkb : okW (k : Int) = true:=by
    unfold okW
    rw [decide_eq_true (show (0 : Int) ≤ (k : Int) by omega), decide_eq_true (show (k : Int) ≤ 4224 by omega)]
    rfl
  rw [hkb] at HP0
  have hTT:=fun W (hW : Below w.heap.size w W) => hT.mono hW
  have g1:=fun W (hW : Below w.heap.size w W) => dof_any 1 W (by omega) (by omega) (hTT W hW)
  obtain ⟨u1, u2, u3⟩:=nf_up (k:=18) (by omega)
  obtain ⟨_, y2, y3, y4, _, _⟩:=nf (t:=1) (v:=0) (by unfold AbP; decide) (by omega)
  have g2:=fun x W h (hW : Below w.heap.size w W) => dshift_any (mkM 1 0) (mkE 1 0) 18 x W h (by omega) (by omega) (by omega) (hTT W hW)
  rw [show ((18 : Nat) : Int) = 18 from rfl] at u1 u2 u3
  rw [show (2 : Int) ^ 18 = 262144 from by decide] at u2 u3
  rw [u1, u2, u3] at g2
  obtain ⟨_, t2, t3, t4, _, _⟩:=nf hTb (by omega)
  obtain ⟨_, v2, v3, v4, _, _⟩:=nf mb (by omega)
  obtain ⟨a1, a2, a3⟩:=nf_sub hTb mb (by omega)
  obtain ⟨b1, b2, b3⟩:=nf_add hTb mb (by omega)
  have g3:=fun x y W h j (hW : Below w.heap.size w W) => dsub_any (mkM T 0) (mkE T 0) (mkM 262144 0) (mkE 262144 0) x y W h j (by omega) (by omega) (by omega) (by omega) (hTT W hW)
  rw [a1, a2, a3] at g3
  have g4:=fun x y W h j (hW : Below w.heap.size w W) => dadd_any (mkM T 0) (mkE T 0) (mkM 262144 0) (mkE 262144 0) x y W h j (by omega) (by omega) (by omega) (by omega) (hTT W hW)
  rw [b1, b2, b3] at g4
  have lob : AbP (T - 262144) 1701:=by rw [Int.sub_eq_add_neg]; exact hTb.add mb.neg
  have hib : AbP (T + 262144) 1701:=hTb.add mb
  obtain ⟨d1, d2, d3, d4, d5, d6⟩:=nf_down (k:=q) lob (by omega) (by omega)
  obtain ⟨e1, e2, e3, e4, e5, e6⟩:=nf_down (k:=q) hib (by omega) (by omega)
  obtain ⟨_, i2, i3, i4, _, _⟩:=nf lob (by omega)
  obtain ⟨_, j2, j3, j4, _, _⟩:=nf hib (by omega)
  have g5:=fun x W h (hW : Below w.heap.size w W) => dshift_any (mkM (T - 262144) 0) (mkE (T - 262144) 0) (-(q : Int)) x W h (by omega) (by omega) (by omega) (hTT W hW)
  have g6:=fun x W h (hW : Below w.heap.size w W) => dshift_any (mkM (T + 262144) 0) (mkE (T + 262144) 0) (-(q : Int)) x W h (by omega) (by omega) (by omega) (hTT W hW)
  rw [d1] at g5
  rw [e1] at g6
  rw [← hq] at d3 e3
  have lo1:=lo_out T k d3
  have hi1:=hi_out T k e3
  rw [hq] at lo1 hi1
  have z1:=(lb1).zl
  have z2:=(lb2).zl
  have hpk : permB (k : Int) = true:=by
    unfold permB
    rw [decide_eq_true (show (-2048 : Int) ≤ (k : Int) by omega), decide_eq_true (show (k : Int) ≤ 8192 by omega)]
    rfl
  have g7:=fun x W h (hW : Below w.heap.size w W) => i10out_yes (mkM (mkM (T - 262144) 0) (mkE (T - 262144) 0 + -(q : Int))) (mkE (mkM (T - 262144) 0) (mkE (T - 262144) 0 + -(q : Int))) (mkM (mkM (T + 262144) 0) (mkE (T + 262144) 0 + -(q : Int))) (mkE (mkM (T + 262144) 0) (mkE (T + 262144) 0 + -(q : Int))) (k : Int) x W h (by omega) (by omega) ⟨d5, d6⟩ ⟨e5, e6⟩ (by omega) (by omega) hpk (by rw [lo1]; exact mk_fits9 (by omega) (by omega) (by omega)) (by rw [hi1]; exact mk_fits9 (by omega) (by omega) (by omega)) (hTT W hW)
  rw [lo1, hi1] at g7
  clear lo1 hi1 d1 d2 d3 d4 d5 d6 e1 e2 e3 e4 e5 e6 u1 u2 u3 y2 y3 y4 t2 t3 t4 v2 v3 v4 a1 a2 a3 b1 b2 b3 i2 i3 i4 j2 j3 j4 lob hib lb1 lb2 z1 z2 hkb
  generalize mkM (loC T) (-(k : Int)) = Ma at *
  generalize mkE (loC T) (-(k : Int)) = Ea at *
  generalize mkM (hiC T) (-(k : Int)) = Na at *
  generalize mkE (hiC T) (-(k : Int)) = Fa at *
  generalize mkM (mkM (T - 262144) 0) (mkE (T - 262144) 0 + -(q : Int)) = Mb at *
  generalize mkE (mkM (T - 262144) 0) (mkE (T - 262144) 0 + -(q : Int)) = Eb at *
  generalize mkM (mkM (T + 262144) 0) (mkE (T + 262144) 0 + -(q : Int)) = Nb at *
  generalize mkE (mkM (T + 262144) 0) (mkE (T + 262144) 0 + -(q : Int)) = Fb at *
  generalize mkM (T - 262144) 0 = Mc at *
  generalize mkE (T - 262144) 0 = Ec at *
  generalize mkM (T + 262144) 0 = Nc at *
  generalize mkE (T + 262144) 0 = Fc at *
  generalize mkM 262144 0 = Mm at *
  generalize mkE 262144 0 = Em at *
  generalize mkM 1 0 = M1 at *
  generalize mkE 1 0 = E1 at *
  rw [hq] at hf
  rw [hn2] at hlen hn ⊢
  have w1 : IntKind.i64.wrap ((k : Int) + 32) = (q : Int):=by rw [IntKind.wrap_i64]; omega
  have w2 : IntKind.i64.wrap (-(q : Int)) = -(q : Int):=by rw [IntKind.wrap_i64]; omega
  have HRW:=Lib.hid hrow
  have HB:=Lib.hid hb
  have HN:=Lib.hid (And.intro hn2 hlen)
  have HT:=Lib.hid hTT
  have HF:=Lib.hid hf
  have HP:=Lib.hid HP0
  have HS:=Lib.hid (show SmI cs 1600 0 0 T from ⟨AbP.zero _, hsum⟩)
  have G1:=Lib.hid g1
  have G2:=Lib.hid g2
  have G3:=Lib.hid g3
  have G4:=Lib.hid g4
  have G5:=Lib.hid g5
  have G6:=Lib.hid g6
  have G7:=Lib.hid g7
  clear g1 g2 g3 g4 g5 g6 g7 hf hT hTT hb hsum HP0 hrow hpk hTb mb hq hn2 hlen
  go_enter Tryz.func98, Tryz.ntmps98
  have L:=((Lq.mk0 w).varI (w.heap.size) (by simp) false none 0 0 0 false none 0 0 0)
  (try go_wp2_with fail)
  refine (HP.out _).mono ?_
  rintro e9 w' ⟨rfl, rfl⟩
  replace L:=L.varD (w.heap.size + 1) (by simp) false none 0 0 0
  have c00:=L.b0.c30
  have f00:=L.b0.fr 0
  have c01:=L.b0.c31
  have f01:=L.b0.fr 1
  have c02:=L.b0.c32
  have f02:=L.b0.fr 2
  (try go_wp2_with fail)
  clear c00 f00 c01 f01 c02 f02
  go_loopw [25] (fun i wr => ∃ (t : Nat) (s N K : Int) (A2 : Option Addr) (c2 : Nat), i = .int .i64 (t : Int) ∧ t ≤ n ∧ Lq w wr [(.slice A2 (zl N) c2, N.natAbs)] [] [] [(w.heap.size + 1, 26, #[.bool (ng N), .slice A2 (zl N) c2, .int .i64 K]), (w.heap.size, 28, #[.bool false, .slice none 0 0, .int .i64 0, .bool false, .slice none 0 0, .int .i64 0])] ∧ Hid (SmI cs 1600 t s T ∧ mkM s 0 = N ∧ mkE s 0 = K)) (fun i _ => n - (intOf i).toNat)
  case atStart =>
    have zz : zl 0 = 0:=len_zero
    have LN:=L.n (v:=.slice none 0 0) (x:=0) (IsN.zero _)
    refine ⟨0, 0, 0, 0, none, 0, by go_num, by omega, ?_, Lib.hid ⟨HS.out, nf00⟩⟩
    rw [zz]
    exact LN.subs (by simp) (by simp [ng])
  case round =>
    clear L HS
    obtain ⟨t, s, N, K, A2, c2, rfl, ht, L, HS⟩:=hrel
    rcases Nat.eq_or_lt_of_le ht with rfl | ht3
    · obtain ⟨hI, hN, hK⟩:=HS.out
      rw [show t = cs.length from HN.out.2.symm] at hI
      obtain rfl:=hI.last
      have G3':=G3.out
      have G4':=G4.out
      rw [hN, hK] at G3' G4'
      have G8:=Lib.hid G3'
      have G9:=Lib.hid G4'
      clear G3' G4' hI hN hK HS G3 G4 HB HF HRW
      have hl1:=L.b0.lt
      have c00:=L.b0.c30
      have c01:=L.b0.c31
      have c02:=L.b0.c32
      (try go_wp2_with fail)
      refine (G1.out _ L.below).mono ?_
      rintro e w41 ⟨v1, rfl, id, be⟩
      clear c00 c01 c02
      replace L:=L.step be
      clear be
      (try go_wp2_with fail)
      refine (G2.out _ _ id L.below).mono ?_
      rintro e w42 ⟨v2, rfl, iz, be⟩
      obtain ⟨A3, c3, rfl, _, in9⟩:=iz.form
      replace L:=(L.step be).n in9
      clear be iz in9 id
      have hl3:=L.b0.lt
      replace L:=L.varD w42.heap.size rfl (ng Mm) A3 (zl Mm) c3 Em
      have c00:=L.b0.c30
      have c01:=L.b0.c31
      have c02:=L.b0.c32
      have c10:=L.tl.b0.c30
      have c11:=L.tl.b0.c31
      have c12:=L.tl.b0.c32
      go_wp2_with fail
      clear c00 c01 c02 c10 c11 c12
      obtain ⟨gm, hgm⟩ : ∃ g9, w42.heap.size = g9:=⟨_, rfl⟩
      rw [hgm] at L hl3 ⊢
      clear hgm
      refine (G8.out _ _ _ (isD_n (m:=N) (e:=K) (s:=.slice A2 (zl N) c2) (L.getN (by simp))) (isD_n (m:=Mm) (e:=Em) (s:=.slice A3 (zl Mm) c3) (L.getN (by simp))) L.below).mono ?_
      rintro e w43 ⟨v2, rfl, iz, be⟩
      obtain ⟨A4, c4, rfl, _, in9⟩:=iz.form
      replace L:=(L.step be).n in9
      clear be iz in9
      have hl4:=L.b0.lt
      replace L:=L.varD w43.heap.size rfl (ng Mc) A4 (zl Mc) c4 Ec
      have c00:=L.b0.c30
      have c01:=L.b0.c31
      have c02:=L.b0.c32
      have c10:=L.tl.b0.c30
      have c11:=L.tl.b0.c31
      have c12:=L.tl.b0.c32
      have c20:=L.tl.tl.b0.c30
      have c21:=L.tl.tl.b0.c31
      have c22:=L.tl.tl.b0.c32
      go_wp2_with fail
      clear c00 c01 c02 c10 c11 c12 c20 c21 c22
      obtain ⟨gl, hgl⟩ : ∃ g9, w43.heap.size = g9:=⟨_, rfl⟩
      rw [hgl] at L hl4 ⊢
      clear hgl
      refine (G9.out _ _ _ (isD_n (m:=N) (e:=K) (s:=.slice A2 (zl N) c2) (L.getN (by simp))) (isD_n (m:=Mm) (e:=Em) (s:=.slice A3 (zl Mm) c3) (L.getN (by simp))) L.below).mono ?_
      rintro e w44 ⟨v2, rfl, iz, be⟩
      obtain ⟨A5, c5, rfl, _, in9⟩:=iz.form
      replace L:=(L.step be).n in9
      clear be iz in9
      have hl5:=L.b0.lt
      replace L:=L.varD w44.heap.size rfl (ng Nc) A5 (zl Nc) c5 Fc
      have c00:=L.b0.c30
      have c01:=L.b0.c31
      have c02:=L.b0.c32
      have c10:=L.tl.b0.c30
      have c11:=L.tl.b0.c31
      have c12:=L.tl.b0.c32
      go_wp2_with fail
      clear c00 c01 c02 c10 c11 c12
      obtain ⟨gh, hgh⟩ : ∃ g9, w44.heap.size = g9:=⟨_, rfl⟩
      rw [hgh] at L hl5 ⊢
      clear hgh
      refine (G5.out _ _ (isD_n (m:=Mc) (e:=Ec) (s:=.slice A4 (zl Mc) c4) (L.getN (by simp))) L.below).mono ?_
      rintro e w45 ⟨v2, rfl, iz, be⟩
      obtain ⟨A6, c6, rfl, _, in9⟩:=iz.form
      replace L:=(L.step be).n in9
      clear be iz in9
      have L4:=L.subs (ns':=[(.slice A6 (zl Mb) c6, Mb.natAbs), (.slice A5 (zl Nc) c5, Nc.natAbs)]) (bs':=[(gl, 26, #[.bool (ng Mc), .slice A4 (zl Mc) c4, .int .i64 Ec]), (gh, 26, #[.bool (ng Nc), .slice A5 (zl Nc) c5, .int .i64 Fc]), (w.heap.size, 28, #[.bool false, .slice none 0 0, .int .i64 0, .bool false, .slice none 0 0, .int .i64 0])]) (by simp) (by simp)
      clear L
      have L:=L4
      clear L4
      have n1 : gl ≠ gh:=by omega
      have n2 : w.heap.size ≠ gh:=by omega
      have n3 : w.heap.size ≠ gl:=by omega
      have c00:=L.b0.c30
      have f00:=L.b0.fr 0
      have c01:=L.b0.c31
      have f01:=L.b0.fr 1
      have c02:=L.b0.c32
      have f02:=L.b0.fr 2
      have c10:=L.tl.b0.c30
      have c11:=L.tl.b0.c31
      have c12:=L.tl.b0.c32
      have P:=L.putD (by omega) (by simp [n1, n2, n3, Ne.symm n1, Ne.symm n2, Ne.symm n3]) (ng Mb) A6 (zl Mb) c6 Eb
      have p0:=P.tl.b0.c30
      have p1:=P.tl.b0.c31
      have p2:=P.tl.b0.c32
      unfold put3 at p0 p1 p2 P
      go_wp2_with fail
      replace L:=P
      clear P p0 p1 p2
      clear c00 f00 c01 f01 c02 f02 c10 c11 c12
      refine (G6.out _ _ (isD_n (m:=Nc) (e:=Fc) (s:=.slice A5 (zl Nc) c5) (L.getN (by simp))) L.below).mono ?_
      rintro e w46 ⟨v2, rfl, iz, be⟩
      obtain ⟨A7, c7, rfl, _, in9⟩:=iz.form
      replace L:=(L.step be).n in9
      clear be iz in9
      replace L:=L.swap
      have c00:=L.b0.c30
      have f00:=L.b0.fr 0
      have c01:=L.b0.c31
      have f01:=L.b0.fr 1
      have c02:=L.b0.c32
      have f02:=L.b0.fr 2
      have c10:=L.tl.b0.c30
      have c11:=L.tl.b0.c31
      have c12:=L.tl.b0.c32
      have P:=L.putD (by omega) (by simp [n1, n2, n3, Ne.symm n1, Ne.symm n2, Ne.symm n3]) (ng Nb) A7 (zl Nb) c7 Fb
      have p0:=P.tl.b0.c30
      have p1:=P.tl.b0.c31
      have p2:=P.tl.b0.c32
      have p3:=P.b0.c30
      have p4:=P.b0.c31
      have p5:=P.b0.c32
      unfold put3 at p0 p1 p2 p3 p4 p5 P
      go_wp2_with fail
      replace L:=P
      clear P p0 p1 p2 p3 p4 p5
      clear c00 f00 c01 f01 c02 f02 c10 c11 c12
      refine (G7.out _ _ (isI_n (m:=Mb) (e:=Eb) (n:=Nb) (f:=Fb) (s:=.slice A6 (zl Mb) c6) (t:=.slice A7 (zl Nb) c7) (L.getN (by simp)) (L.getN (by simp))) L.below).mono ?_
      rintro e w47 ⟨v2, rfl, ii, be⟩
      obtain ⟨A8, c8, B8, d8, rfl, ia, ib⟩:=ii.form
      replace L:=(((L.step be).n ib).n ia).pull2
      clear be ii ia ib
      have c00:=L.b0.c60
      have f00:=L.b0.fr 0
      have c01:=L.b0.c61
      have f01:=L.b0.fr 1
      have c02:=L.b0.c62
      have f02:=L.b0.fr 2
      have c03:=L.b0.c63
      have f03:=L.b0.fr 3
      have c04:=L.b0.c64
      have f04:=L.b0.fr 4
      have c05:=L.b0.c65
      have f05:=L.b0.fr 5
      go_wp2_with fail
      have LP:=L.putI (by omega) (by simp [n2, n3, Ne.symm n2, Ne.symm n3]) (ng Ma) A8 (zl Ma) c8 Ea (ng Na) B8 (zl Na) d8 Fa
      have k0:=LP.b0.c60
      have k1:=LP.b0.c61
      have k2:=LP.b0.c62
      have k3:=LP.b0.c63
      have k4:=LP.b0.c64
      have k5:=LP.b0.c65
      unfold put6 at k0 k1 k2 k3 k4 k5
      exact bodyPost_ret (v:=.tuple #[.agg #[.bool (ng Ma), .slice A8 (zl Ma) c8, .int .i64 Ea, .bool (ng Na), .slice B8 (zl Na) d8, .int .i64 Fa], .int .i64 0]) (by simp [results, Tryz.results98, go_sem, k0, k1, k2, k3, k4, k5]) rfl ⟨_, rfl, isI_n (LP.getN (by simp)) (LP.getN (by simp)), LP.below⟩
    · obtain ⟨x, hx⟩ : ∃ x, l[t]? = some x:=⟨_, List.getElem?_eq_getElem (by rw [HN.out.1]; exact ht3)⟩
      obtain ⟨cc, hcc⟩ : ∃ x, cs[t]? = some x:=⟨_, List.getElem?_eq_getElem (by rw [HN.out.2]; exact ht3)⟩
      obtain ⟨e0, e1, e2⟩:=HRW.out t x hx
      replace e0:=(L.below.cell (p:=⟨g, 3 * t, none⟩) hg).trans e0
      replace e1:=(L.below.cell (p:=⟨g, 3 * t + 1, none⟩) hg).trans e1
      replace e2:=(L.below.cell (p:=⟨g, 3 * t + 2, none⟩) hg).trans e2
      rw [Nat.mul_comm 3 t] at e0 e1 e2
      obtain ⟨hI, hN, hK⟩:=HS.out
      have hcb:=HB.out _ (List.mem_of_getElem? hcc)
      have hI2:=hI.step hcc hcb
      have o1:=fun W hW => HF.out t x cc W hx hcc hW
      obtain ⟨a1, a2, a3⟩:=nf_add hI.1 (hcb.up (show 1600 ≤ 1600 + t by omega)) (by omega)
      obtain ⟨_, b2, b3, b4, _, _⟩:=nf hI.1 (by omega)
      obtain ⟨_, d2, d3, d4, _, _⟩:=nf hcb (by omega)
      have o2:=fun x y W h j (hW : Below w.heap.size w W) => dadd_any (mkM s 0) (mkE s 0) (mkM cc 0) (mkE cc 0) x y W h j (by omega) (by omega) (by omega) (by omega) (HT.out W hW)
      rw [a1, a2, a3] at o2
      clear a1 a2 a3 b2 b3 b4 d2 d3 d4 hcb hI hcc hx
      obtain ⟨s2, hs2⟩ : ∃ z, s + cc = z:=⟨_, rfl⟩
      rw [hs2] at o2 hI2
      rw [hN, hK] at o2
      obtain ⟨N2, hN2⟩ : ∃ z, mkM s2 0 = z:=⟨_, rfl⟩
      obtain ⟨K2, hK2⟩ : ∃ z, mkE s2 0 = z:=⟨_, rfl⟩
      rw [hN2, hK2] at o2
      generalize mkM cc 0 = Mx at *
      generalize mkE cc 0 = Ex at *
      have HR:=Lib.hid (And.intro hI2 (And.intro hN2 hK2))
      have O1:=Lib.hid o1
      have O2:=Lib.hid o2
      obtain ⟨xa, xF, xn⟩:=x
      dsimp only at e0 e1 e2 O1
      have hlt : (t : Int) < (n : Int):=by omega
      have ht0 : (0 : Int) ≤ (t : Int):=by omega
      have w3 : IntKind.i64.wrap ((t : Int) + 1) = (t : Int) + 1:=by rw [IntKind.wrap_i64]; omega
      have hl1:=L.b0.lt
      have hsf:=fun (a : Addr) (W : World) => run_store Tryz.prog W a (.func (.func xF) #[] #[]) .plain rfl
      clear o1 o2 hI2 hN2 hK2 hN hK hs2 HS
      replace L:=L.varP wr.heap.size rfl xa xF xn
      have cel00:=L.b0.c30
      have cel01:=L.b0.c31
      have cel02:=L.b0.c32
      have cel10:=L.tl.b0.c30
      have cel11:=L.tl.b0.c31
      have cel12:=L.tl.b0.c32
      go_wp2_with fail
      clear cel00 cel01 cel02 cel10 cel11 cel12
      obtain ⟨gx, hgx⟩ : ∃ gx, wr.heap.size = gx:=⟨_, rfl⟩
      rw [hgx] at L hl1 ⊢
      clear hgx e0 e1 e2
      have n1 : w.heap.size + 1 ≠ gx:=by omega
      have cel00:=L.b0.c30
      have cel01:=L.b0.c31
      have cel02:=L.b0.c32
      have cel10:=L.tl.b0.c30
      have cel11:=L.tl.b0.c31
      have cel12:=L.tl.b0.c32
      (try go_wp2_with fail)
      replace L:=L.drew.swap
      clear cel00 cel01 cel02 cel10 cel11 cel12
      have cel00:=L.b0.c30
      have f00:=L.b0.fr 0
      have cel01:=L.b0.c31
      have f01:=L.b0.fr 1
      have cel02:=L.b0.c32
      have f02:=L.b0.fr 2
      have cel10:=L.tl.b0.c30
      have cel11:=L.tl.b0.c31
      have cel12:=L.tl.b0.c32
      go_region_with (first | (go_at_call 154; (with_reducible refine (O1.out _ ?_ ).mono ?_); (· exact L.below); rintro e9 wh ⟨vh, rfl, id, be⟩; obtain ⟨A4, c4, rfl, _, in9⟩:=id.form; replace L:=(L.step be).n in9; clear be id in9; (try (have xx00:=L.b0.c30; have yy00:=L.b0.fr 0; have xx01:=L.b0.c31; have yy01:=L.b0.fr 1; have xx02:=L.b0.c32; have yy02:=L.b0.fr 2)); (try (have xx10:=L.tl.b0.c30; have xx11:=L.tl.b0.c31; have xx12:=L.tl.b0.c32))) | (go_at_call 61; (with_reducible refine (O2.out _ _ _ ?_ ?_ ?_ ).mono ?_); (· (refine isD_n (L.getN ?_); (repeat (first | (with_reducible exact List.mem_cons_self) | apply List.mem_cons_of_mem)))); (· (refine isD_n (L.getN ?_); (repeat (first | (with_reducible exact List.mem_cons_self) | apply List.mem_cons_of_mem)))); (· exact L.below); rintro e9 wh ⟨vh, rfl, id, be⟩; obtain ⟨A5, c5, rfl, _, in9⟩:=id.form; replace L:=(L.step be).n in9; clear be id in9; (try (have xx00:=L.b0.c30; have yy00:=L.b0.fr 0; have xx01:=L.b0.c31; have yy01:=L.b0.fr 1; have xx02:=L.b0.c32; have yy02:=L.b0.fr 2)); (try (have xx10:=L.tl.b0.c30; have xx11:=L.tl.b0.c31; have xx12:=L.tl.b0.c32))))
      all_goals
        clear cel00 f00 cel01 f01 cel02 f02 cel10 cel11 cel12
        have P:=L.putD (by omega) (by simp [n1, Ne.symm n1]) (ng N2) A5 (zl N2) c5 K2
        unfold put3 at P
        go_wp2_with fail
        replace L:=P
        clear P
        go_roundw
        case rel => exact ⟨t + 1, s2, N2, K2, A5, c5, by go_num, by omega, L.subs (by simp) (by simp), HR⟩
        case measure => simp [intOf]; omega

def inM (c : Int) (k : Nat) : Option Int → Bool
 | none => false
 | some T => decide (loC T * 2 ^ (500 - k) + 1048576 ≤ c) && decide (c + 1048576 ≤ hiC T * 2 ^ (500 - k))
theorem lnm_all : (List.range 200).all (fun k => inM cLn k (lnT (k + 32))) = true:=by decide +kernel
theorem lns_all : (List.range 180).all (fun v => decide (lnL v * 2 ^ (500 - v) ≤ cLn) && decide (cLn ≤ lnH v * 2 ^ (500 - v))) = true:=by decide +kernel
structure Cn (T c : Int) (k : Nat) : Prop where
 al : AbP (loC T) (k + 3)
 ah : AbP (hiC T) (k + 3)
 lo : dq (loC T) (-(k : Int)) ≤ dq (c - 1048576) (-500)
 hi : dq (c + 1048576) (-500) ≤ dq (hiC T) (-(k : Int))
 wd : hiC T ≤ loC T + 2
theorem dq_up9 (C : Int) {k F : Nat} (h : k ≤ F) : dq C (-(k : Int)) = dq (C * 2 ^ (F - k)) (-(F : Int)):=by
 refine dq_eq (F := -(F : Int)) ?_ (by omega) (by omega)
 rw [show (-(k : Int) - -(F : Int)).toNat = F - k by omega, show (-(F : Int) - -(F : Int)).toNat = 0 by omega]
 simp
theorem cn_of {c : Int} {k : Nat} {o : Option Int} (hk : k < 200) (hc : 1048576 ≤ c ∧ c < 2 ^ 502) (h : inM c k o = true) : ∃ T, o = some T ∧ Cn T c k:=by
  match o with
  | none => cases h
  | some T =>
    unfold inM at h
    rw [Bool.and_eq_true] at h
    have h1:=of_decide_eq_true h.1
    have h2:=of_decide_eq_true h.2
    have hw : hiC T ≤ loC T + 2:=by
      unfold hiC loC
      rw [cdv_le (by omega)]
      have:=Int.lt_ediv_add_one_mul_self (T - 262144) (show (0 : Int) < 4294967296 by omega)
      omega
    have hp:=pow2_pos (500 - k)
    have e5 : (2 : Int) ^ 502 = 2 ^ (k + 2) * 2 ^ (500 - k):=by rw [← Int.pow_add]; congr 1; omega
    have b1 : loC T < 2 ^ (k + 2):=by
      refine Int.lt_of_mul_lt_mul_right (a:=2 ^ (500 - k)) ?_ (by omega)
      rw [← e5]
      omega
    have b2 : 0 ≤ hiC T:=by
      refine Int.not_lt.1 fun h9 => ?_
      have:=Int.mul_neg_of_neg_of_pos h9 hp
      omega
    have b3 : -2 ≤ loC T:=by omega
    have e6 : (2 : Int) ^ (k + 3) = 2 ^ (k + 2) * 2:=by rw [← Int.pow_succ]
    have b4 : (4 : Int) ≤ 2 ^ (k + 2):=by
      have:=pow2_pos k
      rw [Int.pow_succ, Int.pow_succ]
      omega
    have eP : (((2 : Nat) ^ (k + 3) : Nat) : Int) = 2 ^ (k + 3):=by simp
    refine ⟨T, rfl, ?_, ?_, ?_, ?_, hw⟩
    · unfold AbP; omega
    · unfold AbP; omega
    · rw [dq_up9 _ (show k ≤ 500 by omega)]
      exact (dq_le_iff _ _ _).2 (by omega)
    · rw [dq_up9 (hiC T) (show k ≤ 500 by omega)]
      exact (dq_le_iff _ _ _).2 h2
theorem cn_ln {k : Nat} (hk : k < 200) : ∃ T, lnT (k + 32) = some T ∧ Cn T cLn k:=
 cn_of hk ⟨by decide +kernel, by decide +kernel⟩ (List.all_eq_true.1 lnm_all k (List.mem_range.2 hk))
theorem lns {v : Nat} (hv : v < 180) : SpC (lnL v) (lnH v) v (dq cLn (-500)):=by
 have h:=List.all_eq_true.1 lns_all v (List.mem_range.2 hv)
 rw [Bool.and_eq_true] at h
 have h1:=of_decide_eq_true h.1
 have h2:=of_decide_eq_true h.2
 refine ⟨?_, ?_⟩
 ·rw [dq_up9 _ (show v ≤ 500 by omega)]
  exact (dq_le_iff _ _ _).2 h1
 ·rw [dq_up9 (lnH v) (show v ≤ 500 by omega)]
  exact (dq_le_iff _ _ _).2 h2
theorem Cn.mid {T c : Int} {k : Nat} (h : Cn T c k) : dq (loC T) (-(k : Int)) ≤ dq c (-500) ∧ dq c (-500) ≤ dq (hiC T) (-(k : Int)):=
 ⟨Rat.le_trans h.lo ((dq_le_iff _ _ _).2 (by omega)), Rat.le_trans ((dq_le_iff _ _ _).2 (by omega)) h.hi⟩
theorem en14 {lo hi : Rat} {k J : Nat} (hk : k ≤ 220) (hJ : J ≤ 700) (h1 : -dq 1 (J : Int) ≤ lo) (h2 : hi ≤ dq 1 (J : Int)) (hle : lo ≤ hi) : ∃ S1 S2 : Int,
  (∀ W, RetEn W lo hi (k : Int) = RetIE W (mkM S1 (-(k : Int))) (mkE S1 (-(k : Int))) (mkM S2 (-(k : Int))) (mkE S2 (-(k : Int))) 0) ∧ AbP S1 (k + J) ∧ AbP S2 (k + J) ∧
  dq S1 (-(k : Int)) ≤ lo ∧ lo ≤ dq S1 (-(k : Int)) + dq 1 (-(k : Int)) ∧ hi ≤ dq S2 (-(k : Int)) ∧ dq S2 (-(k : Int)) ≤ hi + dq 1 (-(k : Int)):=by
 have c1:=cut_lo lo (k : Int)
 have c2:=cut_hi lo (k : Int)
 have c3:=cut_lo (-hi) (k : Int)
 have c4:=cut_hi (-hi) (k : Int)
 obtain ⟨S1, hS1⟩ : ∃ z, cutQ lo (k : Int) = z:=⟨_, rfl⟩
 obtain ⟨S2, hS2⟩ : ∃ z, -(cutQ (-hi) (k : Int)) = z:=⟨_, rfl⟩
 rw [hS1] at c1 c2
 rw [show cutQ (-hi) (k : Int) = -S2 by omega, dq_neg] at c3 c4
 have eJ:=unit_up k J
 have b1 : S1 ≤ 2 ^ (k + J):=(dq_le_iff _ _ (-(k : Int))).1 (by
  rw [← eJ]
  exact Rat.le_trans c1 (Rat.le_trans hle h2))
 have b2 : -(2 ^ (k + J)) - 1 < S1:=by
  refine Int.not_le.1 fun h => ?_
  have h9:=(dq_le_iff (S1 + 1) (-(2 ^ (k + J))) (-(k : Int))).2 (by omega)
  rw [dq_neg, ← eJ, dq_succ] at h9
  generalize dq 1 (J : Int) = P at *
  generalize dq 1 (-(k : Int)) = u at *
  generalize dq S1 (-(k : Int)) = s at *
  clear c3 c4 hS1 hS2
  grind
 have b3 : -(2 ^ (k + J)) ≤ S2:=(dq_le_iff _ _ (-(k : Int))).1 (by
  rw [dq_neg, ← eJ]
  generalize dq 1 (J : Int) = P at *
  generalize dq S2 (-(k : Int)) = s at *
  clear c1 c2 c4 hS1 hS2
  grind)
 have b4 : S2 < 2 ^ (k + J) + 1:=by
  refine Int.not_le.1 fun h => ?_
  have h9:=(dq_le_iff (2 ^ (k + J) + 1) S2 (-(k : Int))).2 h
  rw [dq_succ, ← eJ] at h9
  generalize dq 1 (J : Int) = P at *
  generalize dq 1 (-(k : Int)) = u at *
  generalize dq S2 (-(k : Int)) = s at *
  clear c1 c2 c3 hS1 hS2
  grind
 have eP : (((2 : Nat) ^ (k + J) : Nat) : Int) = 2 ^ (k + J):=by simp
 rw [← eP] at b1 b2 b3 b4
 have a1 : AbP S1 (k + J):=by unfold AbP; omega
 have a2 : AbP S2 (k + J):=by unfold AbP; omega
 have z1:=a1.zl
 have z2:=a2.zl
 have hwk : workB (k : Int) = true:=by
  unfold workB
  rw [decide_eq_true (show (0 : Int) ≤ (k : Int) by omega), decide_eq_true (show (k : Int) ≤ 4096 by omega)]
  rfl
 have hr:=RetEn.ok (lo:=lo) (hi:=hi) hwk (z:=40) (by rw [hS1]; omega) (by rw [hS2]; omega) (by omega) hle
 refine ⟨S1, S2, fun W => ?_, a1, a2, c1, Rat.le_of_lt c2, ?_, ?_⟩
 ·rw [hr W]
  unfold enM enE upM upE
  rw [hS1, hS2]
 ·generalize dq S2 (-(k : Int)) = s at *
  clear c1 c2 c4 hr
  grind
 ·generalize dq S2 (-(k : Int)) = s at *
  generalize dq 1 (-(k : Int)) = u at *
  clear c1 c2 c3 hr
  grind
def lnQ : Rat:=dq cLn (-500)
theorem lnQ_bd : 69 / 100 ≤ lnQ ∧ lnQ ≤ 694 / 1000:=by
 unfold lnQ
 constructor <;> decide +kernel
theorem Cn.lnq {T : Int} {k : Nat} (h : Cn T cLn k) : dq (loC T) (-(k : Int)) ≤ lnQ ∧ lnQ ≤ dq (hiC T) (-(k : Int)) ∧ dq (hiC T) (-(k : Int)) ≤ dq (loC T) (-(k : Int)) + 2 * dq 1 (-(k : Int)):=by
 refine ⟨h.mid.1, h.mid.2, ?_⟩
 have:=(dq_le_iff (hiC T) (loC T + 2) (-(k : Int))).2 h.wd
 rw [dq_addI, dq_scale 2] at this
 exact this
def rdN (Q1 : Int) : Int:=(cutQ (dq Q1 (-32)) 1 + 1) / 2
theorem red_one {T : Int} (h : Cn T cLn 32) {x q b : Rat} (hx : -512 ≤ x ∧ x ≤ 512) (hb : b = dq (loC T) (-((32 : Nat) : Int)) ∨ b = dq (hiC T) (-((32 : Nat) : Int))) (hq : q * b = x) :
  (-750 ≤ rdN (cutQ q 32) ∧ rdN (cutQ q 32) ≤ 750) ∧ (-750 ≤ q ∧ q ≤ 750) ∧ -(7 / 20) ≤ x - ((rdN (cutQ q 32) : Int) : Rat) * lnQ ∧ x - ((rdN (cutQ q 32) : Int) : Rat) * lnQ ≤ 7 / 20:=by
 obtain ⟨c1, c2⟩:=lnQ_bd
 obtain ⟨l1, l2, l3⟩:=h.lnq
 have v32 : dq 1 (-((32 : Nat) : Int)) = 1 / 4294967296:=by decide +kernel
 rw [v32] at l3
 have hbb : lnQ - 1 / 2147483648 ≤ b ∧ b ≤ lnQ + 1 / 2147483648:=by
  generalize dq (loC T) (-((32 : Nat) : Int)) = l at *
  generalize dq (hiC T) (-((32 : Nat) : Int)) = u at *
  generalize lnQ = c at *
  clear hq h
  rcases hb with rfl | rfl <;> constructor <;> grind
 clear l1 l2 l3 hb h
 have n1:=near_lo (dq (cutQ q 32) (-32)) 0
 have n2:=near_hi (dq (cutQ q 32) (-32)) 0
 have k1:=cut_lo q 32
 have k2:=cut_hi q 32
 have e : (cutQ (dq (cutQ q 32) (-32)) (0 + 1) + 1) / 2 = rdN (cutQ q 32):=rfl
 rw [e, Int.neg_zero, dq_int] at n1 n2
 have vh : dq 1 (-(0 + 1)) = 1 / 2:=by decide +kernel
 have v33 : dq 1 (-32) = 1 / 4294967296:=by decide +kernel
 rw [vh] at n1 n2
 rw [v33] at k2
 obtain ⟨N, hN⟩ : ∃ z, rdN (cutQ q 32) = z:=⟨_, rfl⟩
 rw [hN] at n1 n2 ⊢
 generalize dq (cutQ q 32) (-32) = g at *
 generalize lnQ = c at *
 clear hN e vh v33 v32
 -- the size of q
 have q1 : q ≤ 749:=by
  refine Rat.not_lt.1 fun hl => ?_
  have:=Rat.mul_le_mul_of_nonneg_right (Rat.le_of_lt hl) (show 0 ≤ b by grind)
  grind
 have q2 : -749 ≤ q:=by
  refine Rat.not_lt.1 fun hl => ?_
  have:=Rat.mul_le_mul_of_nonneg_right (Rat.le_of_lt hl) (show 0 ≤ b by grind)
  grind
 have d1 : q - (N : Rat) ≤ 501 / 1000:=by grind
 have d2 : -(501 / 1000) ≤ q - (N : Rat):=by grind
 have p1:=Rat.mul_le_mul_of_nonneg_right d1 (show 0 ≤ c by grind)
 have p2:=Rat.mul_le_mul_of_nonneg_right d2 (show 0 ≤ c by grind)
 have p3:=Rat.mul_nonneg (show 0 ≤ 749 - q by grind) (show 0 ≤ 1 / 2147483648 - (b - c) by grind)
 have p4:=Rat.mul_nonneg (show 0 ≤ 749 - q by grind) (show 0 ≤ 1 / 2147483648 + (b - c) by grind)
 have p5:=Rat.mul_nonneg (show 0 ≤ 749 + q by grind) (show 0 ≤ 1 / 2147483648 - (b - c) by grind)
 have p6:=Rat.mul_nonneg (show 0 ≤ 749 + q by grind) (show 0 ≤ 1 / 2147483648 + (b - c) by grind)
 refine ⟨⟨?_, ?_⟩, ⟨by grind, by grind⟩, by grind, by grind⟩
 ·refine Int.not_lt.1 fun hl => ?_
  have:=Rat.intCast_le_intCast.2 (show N ≤ -751 by omega)
  have e9 : ((-751 : Int) : Rat) = -751:=by decide +kernel
  rw [e9] at this
  grind
 ·refine Int.not_lt.1 fun hl => ?_
  have:=Rat.intCast_le_intCast.2 (show 751 ≤ N by omega)
  have e9 : ((751 : Int) : Rat) = 751:=by decide +kernel
  rw [e9] at this
  grind
theorem red_two {T : Int} {k : Nat} (hk : 12 ≤ k) (h : Cn T cLn (k + 12)) {N : Rat} (hN : -750 ≤ N ∧ N ≤ 750) {l u : Rat} (hl : l = dq (loC T) (-((k + 12 : Nat) : Int))) (hu : u = dq (hiC T) (-((k + 12 : Nat) : Int))) :
  l ≤ u ∧ min4 (N * l) (N * u) (N * l) (N * u) ≤ N * lnQ ∧ N * lnQ ≤ max4 (N * l) (N * u) (N * l) (N * u) ∧ max4 (N * l) (N * u) (N * l) (N * u) ≤ min4 (N * l) (N * u) (N * l) (N * u) + 1 / 2 * dq 1 (-(k : Int)) ∧ -1024 ≤ min4 (N * l) (N * u) (N * l) (N * u) ∧ max4 (N * l) (N * u) (N * l) (N * u) ≤ 1024:=by
 obtain ⟨c1, c2⟩:=lnQ_bd
 obtain ⟨l1, l2, l3⟩:=h.lnq
 rw [← hl] at l1 l3
 rw [← hu] at l2 l3
 have hm:=mul_between (a:=N) (b:=N) (c:=l) (d:=u) (x:=N) (y:=lnQ) Rat.le_refl Rat.le_refl l1 l2
 have e12 : dq 1 (-((k + 12 : Nat) : Int)) = dq 1 (-(k : Int)) * (1 / 4096):=by
  rw [show -((k + 12 : Nat) : Int) = -(k : Int) + -12 by omega, dq_add1]
  have v12 : dq 1 (-12) = 1 / 4096:=by decide +kernel
  rw [v12]
 rw [e12] at l3
 have hw:=dq_pos (-(k : Int))
 have hw1:=dq_anti (a := -(k : Int)) (b := -12) (by omega)
 have v12 : dq 1 (-12) = 1 / 4096:=by decide +kernel
 rw [v12] at hw1
 generalize dq 1 (-(k : Int)) = w at *
 generalize lnQ = c at *
 clear e12 v12 h hl hu
 have p1:=Rat.mul_nonneg (show 0 ≤ 750 - N by grind) (show 0 ≤ u - l by grind)
 have p2:=Rat.mul_nonneg (show 0 ≤ 750 + N by grind) (show 0 ≤ u - l by grind)
 have p3:=Rat.mul_nonneg (show 0 ≤ 750 - N by grind) (show 0 ≤ l by grind)
 have p4:=Rat.mul_nonneg (show 0 ≤ 750 + N by grind) (show 0 ≤ l by grind)
 have p5:=Rat.mul_nonneg (show 0 ≤ 750 - N by grind) (show 0 ≤ u by grind)
 have p6:=Rat.mul_nonneg (show 0 ≤ 750 + N by grind) (show 0 ≤ u by grind)
 have hle : l ≤ u:=by grind
 have b1 : -1024 ≤ N * l ∧ N * l ≤ 1024:=by constructor <;> grind
 have b2 : -1024 ≤ N * u ∧ N * u ≤ 1024:=by constructor <;> grind
 have b3 : N * u ≤ N * l + 1 / 2 * w ∧ N * l ≤ N * u + 1 / 2 * w:=by constructor <;> grind
 have m1:=min4_or (N * l) (N * u) (N * l) (N * u)
 have m2:=max4_or (N * l) (N * u) (N * l) (N * u)
 obtain ⟨hm1, hm2⟩:=hm
 clear p1 p2 p3 p4 p5 p6 l1 l2 l3
 refine ⟨hle, hm1, hm2, ?_, ?_, ?_⟩
 ·generalize min4 (N * l) (N * u) (N * l) (N * u) = A at *
  generalize max4 (N * l) (N * u) (N * l) (N * u) = B at *
  generalize N * l = P at *
  generalize N * u = Q at *
  clear hm1 hm2
  rcases m1 with rfl | rfl | rfl | rfl <;> rcases m2 with rfl | rfl | rfl | rfl <;> grind
 ·rcases m1 with e | e | e | e <;> rw [e]
  ·exact b1.1
  ·exact b2.1
  ·exact b1.1
  ·exact b2.1
 ·rcases m2 with e | e | e | e <;> rw [e]
  ·exact b1.2
  ·exact b2.2
  ·exact b1.2
  ·exact b2.2
theorem red_three {k : Nat} (hk : 12 ≤ k) {x A B y : Rat} {U1 U2 R1 R2 : Int} (h1 : A ≤ y) (h2 : y ≤ B) (h3 : B ≤ A + 1 / 2 * dq 1 (-(k : Int))) (hy : -(7 / 20) ≤ x - y ∧ x - y ≤ 7 / 20)
  (u1 : dq U1 (-(k : Int)) ≤ A) (u2 : A ≤ dq U1 (-(k : Int)) + dq 1 (-(k : Int))) (u3 : B ≤ dq U2 (-(k : Int))) (u4 : dq U2 (-(k : Int)) ≤ B + dq 1 (-(k : Int)))
  (r1 : dq R1 (-(k : Int)) ≤ x - dq U2 (-(k : Int))) (r2 : x - dq U2 (-(k : Int)) ≤ dq R1 (-(k : Int)) + dq 1 (-(k : Int))) (r3 : x - dq U1 (-(k : Int)) ≤ dq R2 (-(k : Int))) (r4 : dq R2 (-(k : Int)) ≤ x - dq U1 (-(k : Int)) + dq 1 (-(k : Int))) :
  R1 ≤ R2 ∧ R2 ≤ R1 + 4 ∧ dq R1 (-(k : Int)) ≤ x - y ∧ x - y ≤ dq R2 (-(k : Int)) ∧ -(1 / 2) ≤ dq R1 (-(k : Int)) ∧ dq R2 (-(k : Int)) ≤ 1 / 2:=by
 have hw:=dq_pos (-(k : Int))
 have hw1:=dq_anti (a := -(k : Int)) (b := -12) (by omega)
 have v12 : dq 1 (-12) = 1 / 4096:=by decide +kernel
 rw [v12] at hw1
 have a1 : dq R1 (-(k : Int)) ≤ x - y:=by
  generalize dq 1 (-(k : Int)) = w at *
  grind
 have a2 : x - y ≤ dq R2 (-(k : Int)):=by
  generalize dq 1 (-(k : Int)) = w at *
  grind
 have a3 : dq R2 (-(k : Int)) ≤ dq R1 (-(k : Int)) + (9 / 2) * dq 1 (-(k : Int)):=by
  generalize dq 1 (-(k : Int)) = w at *
  grind
 refine ⟨(dq_le_iff _ _ (-(k : Int))).1 (Rat.le_trans a1 a2), ?_, a1, a2, ?_, ?_⟩
 ·refine Int.not_lt.1 fun hl => ?_
  have h9:=(dq_le_iff (R1 + 5) R2 (-(k : Int))).2 (by omega)
  rw [dq_addI, dq_scale 5, show ((5 : Int) : Rat) = 5 from rfl] at h9
  generalize dq 1 (-(k : Int)) = w at *
  generalize dq R1 (-(k : Int)) = p at *
  generalize dq R2 (-(k : Int)) = q at *
  clear a1 a2 u1 u2 u3 u4 r1 r2 r3 r4 h1 h2 h3 hy
  grind
 ·generalize dq 1 (-(k : Int)) = w at *
  grind
 ·generalize dq 1 (-(k : Int)) = w at *
  grind

theorem en14c {lo hi : Rat} {k J : Nat} (hk : k ≤ 220) (hJ : J ≤ 700) (h1 : -dq 1 (J : Int) ≤ lo) (h2 : hi ≤ dq 1 (J : Int)) (hle : lo ≤ hi) : ∃ S1 S2 : Int,
  cutQ lo (k : Int) = S1 ∧ (∀ W, RetEn W lo hi (k : Int) = RetIE W (mkM S1 (-(k : Int))) (mkE S1 (-(k : Int))) (mkM S2 (-(k : Int))) (mkE S2 (-(k : Int))) 0) ∧ AbP S1 (k + J) ∧ AbP S2 (k + J) ∧
  dq S1 (-(k : Int)) ≤ lo ∧ lo ≤ dq S1 (-(k : Int)) + dq 1 (-(k : Int)) ∧ hi ≤ dq S2 (-(k : Int)) ∧ dq S2 (-(k : Int)) ≤ hi + dq 1 (-(k : Int)):=by
 have c1:=cut_lo lo (k : Int)
 have c2:=cut_hi lo (k : Int)
 have c3:=cut_lo (-hi) (k : Int)
 have c4:=cut_hi (-hi) (k : Int)
 obtain ⟨S1, hS1⟩ : ∃ z, cutQ lo (k : Int) = z:=⟨_, rfl⟩
 obtain ⟨S2, hS2⟩ : ∃ z, -(cutQ (-hi) (k : Int)) = z:=⟨_, rfl⟩
 rw [hS1] at c1 c2
 rw [show cutQ (-hi) (k : Int) = -S2 by omega, dq_neg] at c3 c4
 have eJ:=unit_up k J
 have b1 : S1 ≤ 2 ^ (k + J):=(dq_le_iff _ _ (-(k : Int))).1 (by
  rw [← eJ]
  exact Rat.le_trans c1 (Rat.le_trans hle h2))
 have b2 : -(2 ^ (k + J)) - 1 < S1:=by
  refine Int.not_le.1 fun h => ?_
  have h9:=(dq_le_iff (S1 + 1) (-(2 ^ (k + J))) (-(k : Int))).2 (by omega)
  rw [dq_neg, ← eJ, dq_succ] at h9
  generalize dq 1 (J : Int) = P at *
  generalize dq 1 (-(k : Int)) = u at *
  generalize dq S1 (-(k : Int)) = s at *
  clear c3 c4 hS1 hS2
  grind
 have b3 : -(2 ^ (k + J)) ≤ S2:=(dq_le_iff _ _ (-(k : Int))).1 (by
  rw [dq_neg, ← eJ]
  generalize dq 1 (J : Int) = P at *
  generalize dq S2 (-(k : Int)) = s at *
  clear c1 c2 c4 hS1 hS2
  grind)
 have b4 : S2 < 2 ^ (k + J) + 1:=by
  refine Int.not_le.1 fun h => ?_
  have h9:=(dq_le_iff (2 ^ (k + J) + 1) S2 (-(k : Int))).2 h
  rw [dq_succ, ← eJ] at h9
  generalize dq 1 (J : Int) = P at *
  generalize dq 1 (-(k : Int)) = u at *
  generalize dq S2 (-(k : Int)) = s at *
  clear c1 c2 c3 hS1 hS2
  grind
 have eP : (((2 : Nat) ^ (k + J) : Nat) : Int) = 2 ^ (k + J):=by simp
 rw [← eP] at b1 b2 b3 b4
 have a1 : AbP S1 (k + J):=by unfold AbP; omega
 have a2 : AbP S2 (k + J):=by unfold AbP; omega
 have z1:=a1.zl
 have z2:=a2.zl
 have hwk : workB (k : Int) = true:=by
  unfold workB
  rw [decide_eq_true (show (0 : Int) ≤ (k : Int) by omega), decide_eq_true (show (k : Int) ≤ 4096 by omega)]
  rfl
 have hr:=RetEn.ok (lo:=lo) (hi:=hi) hwk (z:=40) (by rw [hS1]; omega) (by rw [hS2]; omega) (by omega) hle
 refine ⟨S1, S2, hS1, fun W => ?_, a1, a2, c1, Rat.le_of_lt c2, ?_, ?_⟩
 ·rw [hr W]
  unfold enM enE upM upE
  rw [hS1, hS2]
 ·generalize dq S2 (-(k : Int)) = s at *
  clear c1 c2 c4 hr
  grind
 ·generalize dq S2 (-(k : Int)) = s at *
  generalize dq 1 (-(k : Int)) = u at *
  clear c1 c2 c3 hr
  grind

def RetRdc (w : World) (N m e n f r : Int) (en : Ending) (w' : World) : Prop:=∃ v, en = .returned (.tuple #[.int .i64 N, v, .int .i64 r]) ∧ IsI w' v m e n f ∧ Below w.heap.size w w'
def RdOk (k : Nat) (x : Rat) (N R1 R2 : Int) : Prop:=(-750 ≤ N ∧ N ≤ 750) ∧ R1 ≤ R2 ∧ R2 ≤ R1 + 4 ∧ dq R1 (-(k : Int)) ≤ x - (N : Rat) * lnQ ∧ x - (N : Rat) * lnQ ≤ dq R2 (-(k : Int)) ∧ -(1 / 2) ≤ dq R1 (-(k : Int)) ∧ dq R2 (-(k : Int)) ≤ 1 / 2 ∧ AbP R1 (k + 11) ∧ AbP R2 (k + 11)
def RetRdY (w : World) (k : Nat) (x : Rat) (en : Ending) (w' : World) : Prop:=∃ N R1 R2, RdOk k x N R1 R2 ∧ RetRdc w N (mkM R1 (-(k : Int))) (mkE R1 (-(k : Int))) (mkM R2 (-(k : Int))) (mkE R2 (-(k : Int))) 0 en w'
def l32 (T : Int) : Rat:=dq (loC T) (-((32 : Nat) : Int))
def u32 (T : Int) : Rat:=dq (hiC T) (-((32 : Nat) : Int))
def l12 (T : Int) (k : Nat) : Rat:=dq (loC T) (-((k + 12 : Nat) : Int))
def u12 (T : Int) (k : Nat) : Rat:=dq (hiC T) (-((k + 12 : Nat) : Int))
theorem red_pos {T : Int} (h : Cn T cLn 32) : 0 < l32 T ∧ 0 < u32 T ∧ l32 T ≤ u32 T:=by
 obtain ⟨c1, c2⟩:=lnQ_bd
 obtain ⟨l1, l2, l3⟩:=h.lnq
 have v32 : dq 1 (-((32 : Nat) : Int)) = 1 / 4294967296:=by decide +kernel
 rw [v32] at l3
 unfold l32 u32
 generalize dq (loC T) (-((32 : Nat) : Int)) = l at *
 generalize dq (hiC T) (-((32 : Nat) : Int)) = u at *
 generalize lnQ = c at *
 clear h
 refine ⟨by grind, by grind, by grind⟩
theorem red_all {k : Nat} (hk : 12 ≤ k) (hk2 : k ≤ 180) {x : Rat} (hx : -512 ≤ x ∧ x ≤ 512) : ∃ T0 T1 S1 S2 N U1 U2 R1 R2 : Int,
  lnT (32 + 32) = some T0 ∧ lnT (k + 12 + 32) = some T1 ∧ Cn T0 cLn 32 ∧ Cn T1 cLn (k + 12) ∧
  (∀ W, RetEn W (min4 (x / l32 T0) (x / u32 T0) (x / l32 T0) (x / u32 T0)) (max4 (x / l32 T0) (x / u32 T0) (x / l32 T0) (x / u32 T0)) ((32 : Nat) : Int) = RetIE W (mkM S1 (-((32 : Nat) : Int))) (mkE S1 (-((32 : Nat) : Int))) (mkM S2 (-((32 : Nat) : Int))) (mkE S2 (-((32 : Nat) : Int))) 0) ∧ AbP S1 42 ∧ AbP S2 42 ∧ (cutQ (dq S1 (-((32 : Nat) : Int))) (0 + 1) + 1) / 2 = N ∧
  (∀ W, RetEn W (min4 ((N : Rat) * l12 T1 k) ((N : Rat) * u12 T1 k) ((N : Rat) * l12 T1 k) ((N : Rat) * u12 T1 k)) (max4 ((N : Rat) * l12 T1 k) ((N : Rat) * u12 T1 k) ((N : Rat) * l12 T1 k) ((N : Rat) * u12 T1 k)) (k : Int) = RetIE W (mkM U1 (-(k : Int))) (mkE U1 (-(k : Int))) (mkM U2 (-(k : Int))) (mkE U2 (-(k : Int))) 0) ∧ AbP U1 (k + 10) ∧ AbP U2 (k + 10) ∧ U1 ≤ U2 ∧
  (∀ W, RetEn W (x - dq U2 (-(k : Int))) (x - dq U1 (-(k : Int))) (k : Int) = RetIE W (mkM R1 (-(k : Int))) (mkE R1 (-(k : Int))) (mkM R2 (-(k : Int))) (mkE R2 (-(k : Int))) 0) ∧ RdOk k x N R1 R2:=by
 obtain ⟨T0, hS0, C0⟩:=cn_ln (k:=32) (by omega)
 obtain ⟨T1, hS1, C1⟩:=cn_ln (k:=k + 12) (by omega)
 obtain ⟨p1, p2, p3⟩:=red_pos C0
 have hq : ∀ q, (q = x / l32 T0 ∨ q = x / u32 T0 ∨ q = x / l32 T0 ∨ q = x / u32 T0) → (-750 ≤ rdN (cutQ q 32) ∧ rdN (cutQ q 32) ≤ 750) ∧ (-750 ≤ q ∧ q ≤ 750) ∧ -(7 / 20) ≤ x - ((rdN (cutQ q 32) : Int) : Rat) * lnQ ∧ x - ((rdN (cutQ q 32) : Int) : Rat) * lnQ ≤ 7 / 20:=by
  intro q h
  have n1 : l32 T0 ≠ 0:=Rat.ne_of_gt p1
  have n2 : u32 T0 ≠ 0:=Rat.ne_of_gt p2
  rcases h with h | h | h | h
  ·exact red_one C0 hx (b:=l32 T0) (Or.inl rfl) (by rw [h]; exact Rat.div_mul_cancel n1)
  ·exact red_one C0 hx (b:=u32 T0) (Or.inr rfl) (by rw [h]; exact Rat.div_mul_cancel n2)
  ·exact red_one C0 hx (b:=l32 T0) (Or.inl rfl) (by rw [h]; exact Rat.div_mul_cancel n1)
  ·exact red_one C0 hx (b:=u32 T0) (Or.inr rfl) (by rw [h]; exact Rat.div_mul_cancel n2)
 have Q1:=hq _ (min4_or (x / l32 T0) (x / u32 T0) (x / l32 T0) (x / u32 T0))
 have Q2:=hq _ (max4_or (x / l32 T0) (x / u32 T0) (x / l32 T0) (x / u32 T0))
 have hle:=Rat.le_trans (min4_le (x / l32 T0) (x / u32 T0) (x / l32 T0) (x / u32 T0)).1 (le_max4 (x / l32 T0) (x / u32 T0) (x / l32 T0) (x / u32 T0)).1
 obtain ⟨lo, hlo⟩ : ∃ z, min4 (x / l32 T0) (x / u32 T0) (x / l32 T0) (x / u32 T0) = z:=⟨_, rfl⟩
 obtain ⟨hi, hhi⟩ : ∃ z, max4 (x / l32 T0) (x / u32 T0) (x / l32 T0) (x / u32 T0) = z:=⟨_, rfl⟩
 rw [hlo] at Q1 hle
 rw [hhi] at Q2 hle
 have v10 : dq 1 ((10 : Nat) : Int) = 1024:=by decide +kernel
 have v11 : dq 1 ((11 : Nat) : Int) = 2048:=by decide +kernel
 obtain ⟨S1, S2, ec, e1, a1, a2, _, _, _, _⟩:=en14c (lo:=lo) (hi:=hi) (k:=32) (J:=10) (by omega) (by omega) (by rw [v10]; have:=Q1.2.1.1; clear Q1 Q2 hq hle v10 v11; grind) (by rw [v10]; have:=Q2.2.1.2; clear Q1 Q2 hq hle v10 v11; grind) hle
 obtain ⟨hN, _, y1, y2⟩:=Q1
 have eN : (cutQ (dq S1 (-((32 : Nat) : Int))) (0 + 1) + 1) / 2 = rdN (cutQ lo 32):=by
  rw [show cutQ lo 32 = S1 from ec]
  rfl
 obtain ⟨N, hN9⟩ : ∃ z, rdN (cutQ lo 32) = z:=⟨_, rfl⟩
 rw [hN9] at hN y1 y2 eN
 have hNR : -750 ≤ (N : Rat) ∧ (N : Rat) ≤ 750:=by
  have h1:=Rat.intCast_le_intCast.2 hN.1
  have h2:=Rat.intCast_le_intCast.2 hN.2
  rw [show ((-750 : Int) : Rat) = -750 from by decide +kernel] at h1
  rw [show ((750 : Int) : Rat) = 750 from by decide +kernel] at h2
  exact ⟨h1, h2⟩
 obtain ⟨b0, b1, b2, b3, b4, b5⟩:=red_two hk C1 hNR (l:=l12 T1 k) (u:=u12 T1 k) rfl rfl
 have hle2:=Rat.le_trans b1 b2
 clear Q2 hq
 obtain ⟨A, hA⟩ : ∃ z, min4 ((N : Rat) * l12 T1 k) ((N : Rat) * u12 T1 k) ((N : Rat) * l12 T1 k) ((N : Rat) * u12 T1 k) = z:=⟨_, rfl⟩
 obtain ⟨B, hB⟩ : ∃ z, max4 ((N : Rat) * l12 T1 k) ((N : Rat) * u12 T1 k) ((N : Rat) * l12 T1 k) ((N : Rat) * u12 T1 k) = z:=⟨_, rfl⟩
 rw [hA] at b1 b3 b4 hle2
 rw [hB] at b2 b3 b5 hle2
 obtain ⟨U1, U2, e2, a3, a4, u1, u2, u3, u4⟩:=en14 (lo:=A) (hi:=B) (k:=k) (J:=10) (by omega) (by omega) (by rw [v10]; exact b4) (by rw [v10]; exact b5) hle2
 have hw1:=dq_anti (a:=(-(k : Int))) (b := -12) (by omega)
 have v12 : dq 1 (-12) = 1 / 4096:=by decide +kernel
 rw [v12] at hw1
 have hUU : dq U1 (-(k : Int)) ≤ dq U2 (-(k : Int)):=Rat.le_trans u1 (Rat.le_trans hle2 u3)
 have hx1 : -2048 ≤ x - dq U2 (-(k : Int)):=by
  obtain ⟨hx1, hx2⟩:=hx
  generalize dq U2 (-(k : Int)) = p at *
  generalize dq 1 (-(k : Int)) = u at *
  clear u1 u2 u3 b0 b1 b2 b3 y1 y2 e1 e2 eN
  grind
 have hx2 : x - dq U1 (-(k : Int)) ≤ 2048:=by
  obtain ⟨hx1, hx2⟩:=hx
  generalize dq U1 (-(k : Int)) = p at *
  generalize dq 1 (-(k : Int)) = u at *
  clear u1 u3 u4 b0 b1 b2 b3 y1 y2 e1 e2 eN
  grind
 have hx3 : x - dq U2 (-(k : Int)) ≤ x - dq U1 (-(k : Int)):=by
  generalize dq U1 (-(k : Int)) = p at *
  generalize dq U2 (-(k : Int)) = q at *
  clear u1 u2 u3 u4 b0 b1 b2 b3 y1 y2 e1 e2 eN
  grind
 obtain ⟨R1, R2, e3, a5, a6, r1, r2, r3, r4⟩:=en14 (lo:=x - dq U2 (-(k : Int))) (hi:=x - dq U1 (-(k : Int))) (k:=k) (J:=11) (by omega) (by omega) (by rw [v11]; exact hx1) (by rw [v11]; exact hx2) hx3
 obtain ⟨z1, z2, z3, z4, z5, z6⟩:=red_three hk b1 b2 b3 ⟨y1, y2⟩ u1 u2 u3 u4 r1 r2 r3 r4
 exact ⟨T0, T1, S1, S2, N, U1, U2, R1, R2, hS0, hS1, C0, C1, by rw [hlo, hhi]; exact e1, a1, a2, eN, by rw [hA, hB]; exact e2, a3, a4, (dq_le_iff _ _ _).1 hUU, e3, hN, z1, z2, z3, z4, z5, z6, a5, a6⟩


theorem plainP3 (a0 : Int) (F0 : Nat) (n0 : Int) (a1 : Int) (F1 : Nat) (n1 : Int) (a2 : Int) (F2 : Nat) (n2 : Int) : Plain #[.int .i64 a0, .func (.func F0) #[] #[], .int .i64 n0, .int .i64 a1, .func (.func F1) #[] #[], .int .i64 n1, .int .i64 a2, .func (.func F2) #[] #[], .int .i64 n2]:=fun j x => by
 match j with
 | 0 => simp
 | 1 => simp
 | 2 => simp
 | 3 => simp
 | 4 => simp
 | 5 => simp
 | 6 => simp
 | 7 => simp
 | 8 => simp
 | j + 9 => simp
theorem rowP_3 {w : World} {g : Nat} {a0 : Int} {F0 : Nat} {n0 : Int} {a1 : Int} {F1 : Nat} {n1 : Int} {a2 : Int} {F2 : Nat} {n2 : Int} (hv : Var w g 115 #[.int .i64 a0, .func (.func F0) #[] #[], .int .i64 n0, .int .i64 a1, .func (.func F1) #[] #[], .int .i64 n1, .int .i64 a2, .func (.func F2) #[] #[], .int .i64 n2]) : RowP w (.slice (some ⟨g, 0, none⟩) 3 3) [(a0, F0, n0), (a1, F1, n1), (a2, F2, n2)]:=by
  refine ⟨g, 3, rfl, hv.lt, fun j x hx => ?_⟩
  match j with
  | 0 =>
    obtain rfl : (a0, F0, n0) = x:=by simpa using hx
    exact ⟨hv.cell 0, hv.cell 1, hv.cell 2⟩
  | 1 =>
    obtain rfl : (a1, F1, n1) = x:=by simpa using hx
    exact ⟨hv.cell 3, hv.cell 4, hv.cell 5⟩
  | 2 =>
    obtain rfl : (a2, F2, n2) = x:=by simpa using hx
    exact ⟨hv.cell 6, hv.cell 7, hv.cell 8⟩
  | j + 3 => simp at hx
theorem pt1_some {c : Int} {p : Nat → Int × Int} {v : Nat} {T : Int} (h : pt1 c p v = some T) : ∃ S, smP p 600 0 (2 ^ v) 0 = some S ∧ T = S * c:=by
 unfold pt1 at h
 split at h
 ·cases h
 ·next a ha => exact ⟨a, ha, (Option.some.inj h).symm⟩
theorem add2_some {x y : Option Int} {T : Int} (h : add2 x y = some T) : ∃ a b, x = some a ∧ y = some b ∧ T = a + b:=by
 match x, y with
 | some a, some b => exact ⟨a, b, rfl, rfl, (Option.some.inj h).symm⟩
 | none, _ => cases h
 | some _, none => cases h
theorem pt_abs {c S : Int} {p : Nat → Int × Int} {v : Nat} (hg : GdP p) (hS : smP p 600 0 (2 ^ v) 0 = some S) (hc : AbP c 10) (hv : v ≤ 950) : AbP (S * c) 1600:=((smP_abs hg 600 0 _ _ _ (sp_first hS)).mul hc).up (by omega)

set_option maxHeartbeats 4000000 in
theorem cln_yes (k : Nat) (T : Int) (w : World) (hk : k ≤ 900) (hT : Tab w) (hS : lnT (k + 32) = some T) :
    Calls Tryz.prog 51 #[.int .i64 (k : Int)] w (RetIE w (mkM (loC T) (-(k : Int))) (mkE (loC T) (-(k : Int))) (mkM (hiC T) (-(k : Int))) (mkE (hiC T) (-(k : Int))) 0):=by
  unfold lnT at hS
  obtain ⟨T9, T2, h9, h2, rfl⟩:=add2_some hS
  obtain ⟨T0, T1, h0, h1, rfl⟩:=add2_some h9
  obtain ⟨S0, hS0, r0⟩:=pt1_some h0
  obtain ⟨S1, hS1, r1⟩:=pt1_some h1
  obtain ⟨S2, hS2, r2⟩:=pt1_some h2
  subst r0 r1 r2
  have hen0 : ∀ args w, (callFunc 100 args).run Tryz.prog w = .ok (.enter 100 args) w:=enters_of Tryz.func100 (by kernel_rfl) rfl
  have G0 : GdP (tnP 26 (-1)):=tnP_good (by simp)
  have a0 : AbP (18) 10:=by unfold AbP; decide
  have u0:=fun W (hW : Below w.heap.size w W) => csum_any 100 hen0 (tnP 26 (-1)) 26 (18) S0 (k + 32) W G0 hS0 a0 (by omega) (hT.mono hW) (fun j W hj => carea_any 26 j W (by omega) (by omega) hj)
  have b0:=pt_abs G0 hS0 a0 (by omega)
  have hen1 : ∀ args w, (callFunc 100 args).run Tryz.prog w = .ok (.enter 100 args) w:=enters_of Tryz.func100 (by kernel_rfl) rfl
  have G1 : GdP (tnP 4801 (-1)):=tnP_good (by simp)
  have a1 : AbP (-2) 10:=by unfold AbP; decide
  have u1:=fun W (hW : Below w.heap.size w W) => csum_any 100 hen1 (tnP 4801 (-1)) 4801 (-2) S1 (k + 32) W G1 hS1 a1 (by omega) (hT.mono hW) (fun j W hj => carea_any 4801 j W (by omega) (by omega) hj)
  have b1:=pt_abs G1 hS1 a1 (by omega)
  have hen2 : ∀ args w, (callFunc 100 args).run Tryz.prog w = .ok (.enter 100 args) w:=enters_of Tryz.func100 (by kernel_rfl) rfl
  have G2 : GdP (tnP 8749 (-1)):=tnP_good (by simp)
  have a2 : AbP (8) 10:=by unfold AbP; decide
  have u2:=fun W (hW : Below w.heap.size w W) => csum_any 100 hen2 (tnP 8749 (-1)) 8749 (8) S2 (k + 32) W G2 hS2 a2 (by omega) (hT.mono hW) (fun j W hj => carea_any 8749 j W (by omega) (by omega) hj)
  have b2:=pt_abs G2 hS2 a2 (by omega)
  have g1:=fun v W (hl : RowP W v [((18 : Int), 100, (26 : Int)), ((-2 : Int), 100, (4801 : Int)), ((8 : Int), 100, (8749 : Int))]) (hW : Below w.heap.size w W) => cencl_yes k [((18 : Int), 100, (26 : Int)), ((-2 : Int), 100, (4801 : Int)), ((8 : Int), 100, (8749 : Int))] [S0 * (18), S1 * (-2), S2 * (8)] (S0 * (18) + S1 * (-2) + S2 * (8)) v W hk hl rfl (by simp) (hT.mono hW) (fun c hc => by
    simp only [List.mem_cons, List.not_mem_nil, or_false] at hc
    rcases hc with rfl | rfl | rfl <;> assumption) (by unfold ttl; unfold ttl; unfold ttl; unfold ttl; rw [Int.zero_add]) (fun j x c W2 hx hc hW2 => by
    have hW3:=hW.trans (hW2.mono hW.size)
    match j with
    | 0 =>
      obtain rfl : ((18 : Int), 100, (26 : Int)) = x:=by simpa using hx
      obtain rfl : S0 * (18) = c:=by simpa using hc
      exact u0 W2 hW3
    | 1 =>
      obtain rfl : ((-2 : Int), 100, (4801 : Int)) = x:=by simpa using hx
      obtain rfl : S1 * (-2) = c:=by simpa using hc
      exact u1 W2 hW3
    | 2 =>
      obtain rfl : ((8 : Int), 100, (8749 : Int)) = x:=by simpa using hx
      obtain rfl : S2 * (8) = c:=by simpa using hc
      exact u2 W2 hW3
    | j + 3 => simp at hx)
  generalize S0 * (18) + S1 * (-2) + S2 * (8) = T at *
  clear hen0 G0 a0 u0 b0 hS0 hen1 G1 a1 u1 b1 hS1 hen2 G2 a2 u2 b2 hS2 hS h0 h1 h2 h9
  generalize mkM (loC T) (-(k : Int)) = Ma at *
  generalize mkE (loC T) (-(k : Int)) = Ea at *
  generalize mkM (hiC T) (-(k : Int)) = Na at *
  generalize mkE (hiC T) (-(k : Int)) = Fa at *
  have H1:=Lib.hid g1
  clear g1
  go_enter Tryz.func51, Tryz.ntmps51
  have L:=((Lq.mk0 w).varI (w.heap.size) (by simp) false none 0 0 0 false none 0 0 0)
  replace L:=L.var (w.heap.size + 1) (by simp) 115 #[.int .i64 (18), .func (.func 100) #[] #[], .int .i64 26, .int .i64 (-2), .func (.func 100) #[] #[], .int .i64 4801, .int .i64 (8), .func (.func 100) #[] #[], .int .i64 8749] (plainP3 _ _ _ _ _ _ _ _ _ )
  have p0:=L.b0.cell 0
  have p1:=L.b0.cell 1
  have p2:=L.b0.cell 2
  have p3:=L.b0.cell 3
  have p4:=L.b0.cell 4
  have p5:=L.b0.cell 5
  have p6:=L.b0.cell 6
  have p7:=L.b0.cell 7
  have p8:=L.b0.cell 8
  (try go_wp2_with fail)
  clear p0 p1 p2 p3 p4 p5 p6 p7 p8
  refine (H1.out _ _ (rowP_3 L.b0) L.below).mono ?_
  rintro e w1 ⟨v2, rfl, ii, be⟩
  obtain ⟨A8, c8, B8, d8, rfl, ia, ib⟩:=ii.form
  replace L:=(((L.step be).n ib).n ia).swap
  clear be ii ia ib
  have c00:=L.b0.c60
  have f00:=L.b0.fr 0
  have c01:=L.b0.c61
  have f01:=L.b0.fr 1
  have c02:=L.b0.c62
  have f02:=L.b0.fr 2
  have c03:=L.b0.c63
  have f03:=L.b0.fr 3
  have c04:=L.b0.c64
  have f04:=L.b0.fr 4
  have c05:=L.b0.c65
  have f05:=L.b0.fr 5
  go_wp2_with fail
  have LP:=L.putI (by omega) (by first | (simp; done) | (simp; omega)) (ng Ma) A8 (zl Ma) c8 Ea (ng Na) B8 (zl Na) d8 Fa
  have k0:=LP.b0.c60
  have k1:=LP.b0.c61
  have k2:=LP.b0.c62
  have k3:=LP.b0.c63
  have k4:=LP.b0.c64
  have k5:=LP.b0.c65
  unfold put6 at k0 k1 k2 k3 k4 k5
  exact bodyPost_ret (v:=.tuple #[.agg #[.bool (ng Ma), .slice A8 (zl Ma) c8, .int .i64 Ea, .bool (ng Na), .slice B8 (zl Na) d8, .int .i64 Fa], .int .i64 0]) (by simp [results, Tryz.results51, go_sem, k0, k1, k2, k3, k4, k5]) rfl ⟨_, rfl, isI_n (LP.getN (by simp)) (LP.getN (by simp)), LP.below⟩


end Go.Proofs.YtnnfldkllhdhjaaGreatDoor
