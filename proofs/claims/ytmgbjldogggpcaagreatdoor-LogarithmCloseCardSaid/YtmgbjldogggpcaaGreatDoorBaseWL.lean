/- Base texts, joined: RefIvA, RefIvB, RefIvC, MillIv, MillTwoA, IvMath2. -/
import Derived.Test.YtmgbjldogggpcaaGreatDoorBaseVL
import Derived.Test.YtmgbjldogggpcaaGreatDoorBaseEL
import Derived.Deep.RegionHeld3
import Derived.Deep.DrawnRows
import Derived.Test.YtmgbjldogggpcaaGreatDoorBaseFL
import Derived.Deep.Cut
import Derived.Deep.CutRange
/- The reference's Valid, Within, Cmp, Sign, Same, least, greatest. -/
namespace Go.Proofs.YtmgbjldogggpcaaGreatDoor
set_option maxHeartbeats 64000000
open Go.RowKit
set_option linter.unusedVariables false
set_option linter.unusedSimpArgs false
set_option maxRecDepth 100000
attribute [local go_sem ↓] Go.wp_at_zero Go.wp_at_succ
def RetSg (w : World) (m n : Int) (en : Ending) (w' : World) : Prop:=en = .returned (.tuple #[.int .i64 (if cmpI m 0 = cmpI n 0 then cmpI m 0 else 0), .bool (decide (cmpI m 0 = cmpI n 0))]) ∧ Below w.heap.size w w'

theorem r10valid_any (m e n f : Int) (vx : Value) (w : World) (hx : IsI w vx m e n f) (lm : zl m ≤ 1000) (ln : zl n ≤ 1000) (he : -70000 ≤ e ∧ e ≤ 70000) (hf : -70000 ≤ f ∧ f ≤ 70000) (hv : Dv m e) (hv2 : Dv n f) :
  Calls Tryz.prog 59 #[vx] w (RetB w (decide (dcm m e n f ≤ 0))):=by
 obtain ⟨A, c, B, d, rfl, hn1, hn2⟩:=hx.form
 have L0:=((Lq.mk0 w).n hn2).n hn1
 have hok : ∀ m e : Int, Dv m e → (if m = 0 then decide (e = 0) else fits8 m e) = true:=fun m e h => by
  rcases h with ⟨h1, h2⟩ | ⟨h1, h2⟩
  ·rw [if_pos h1, h2]; rfl
  ·rw [if_neg h1, h2]
 have v1:=fun v W h => rvalid8_d m e v W h (by omega)
 have v2:=fun v W h => rvalid8_d n f v W h (by omega)
 rw [hok m e hv] at v1
 rw [hok n f hv2] at v2
 have V1:=Hd9 v1
 have V2:=Hd9 v2
 have H10:=fun v u W h1 h2 => rcmp8_any m e n f v u W h1 h2 (by omega) (by omega) (by omega) (by omega)
 obtain ⟨x1, hx1⟩:=nm9 (dcm m e n f)
 unfold dcm at hx1
 rw [hx1] at H10
 have H1:=Hd9 H10
 clear H10
 show Calls _ _ _ _ (RetB w (decide (cmpI (m * 2 ^ (e - min e f).toNat) (n * 2 ^ (f - min e f).toNat) ≤ 0)))
 rw [hx1]
 clear v1 v2 hok hx hn1 hn2 hx1 lm ln he hf hv hv2
 go_enter Tryz.func59, Tryz.ntmps59
 go_wp2_with fail
 have L:=(L0.varI (w.heap.size) (by simp) (ng m) A (zl m) c e (ng n) B (zl n) d f)
 obtain ⟨c00,c01,c02,c03,c04,c05⟩:=L.b0.a6
 (try go_wp2_with fail)
 refine (V1.out _ _ (isD_n (m:=m) (e:=e) (s:=.slice A (zl m) c) (L.getN (v:=.slice A (zl m) c) (x:=(m).natAbs) (by simp)))).mono ?_
 rintro e w1 ⟨rfl, be⟩
 clear c00 c01 c02 c03 c04 c05
 replace L:=L.step be
 clear be
 obtain ⟨c00,c01,c02,c03,c04,c05⟩:=L.b0.a6
 (try go_wp2_with fail)
 refine (V2.out _ _ (isD_n (m:=n) (e:=f) (s:=.slice B (zl n) d) (L.getN (v:=.slice B (zl n) d) (x:=(n).natAbs) (by simp)))).mono ?_
 rintro e w2 ⟨rfl, be⟩
 clear c00 c01 c02 c03 c04 c05
 replace L:=L.step be
 clear be
 obtain ⟨c00,c01,c02,c03,c04,c05⟩:=L.b0.a6
 (try go_wp2_with fail)
 refine (H1.out _ _ _ (isD_n (m:=m) (e:=e) (s:=.slice A (zl m) c) (L.getN (v:=.slice A (zl m) c) (x:=(m).natAbs) (by simp))) (isD_n (m:=n) (e:=f) (s:=.slice B (zl n) d) (L.getN (v:=.slice B (zl n) d) (x:=(n).natAbs) (by simp)))).mono ?_
 rintro e w3 ⟨rfl, be⟩
 clear c00 c01 c02 c03 c04 c05
 replace L:=L.step be
 clear be
 obtain ⟨c00,c01,c02,c03,c04,c05⟩:=L.b0.a6
 (try go_wp2_with fail)
 go_ret
 exact ⟨rfl, L.below⟩
end Go.Proofs.YtmgbjldogggpcaaGreatDoor


/- The reference's Has, Hull, Meet. -/
namespace Go.Proofs.YtmgbjldogggpcaaGreatDoor
set_option maxHeartbeats 64000000
open Go.RowKit
set_option linter.unusedVariables false
set_option linter.unusedSimpArgs false
set_option maxRecDepth 100000
attribute [local go_sem ↓] Go.wp_at_zero Go.wp_at_succ

end Go.Proofs.YtmgbjldogggpcaaGreatDoor


/- The reference's Shift, Width, Mid. -/
namespace Go.Proofs.YtmgbjldogggpcaaGreatDoor
set_option maxHeartbeats 64000000
open Go.RowKit
set_option linter.unusedVariables false
set_option linter.unusedSimpArgs false
set_option maxRecDepth 100000
attribute [local go_sem ↓] Go.wp_at_zero Go.wp_at_succ

theorem rshift8_any (m e k : Int) (vx : Value) (w : World) (hx : IsD w vx m e) (lm : zl m ≤ 100000) (he : -1000000 ≤ e ∧ e ≤ 1000000) (hk : -65536 ≤ k ∧ k ≤ 65536) :
  Calls Tryz.prog 18 #[vx, .int .i64 k] w (RetDE w (mkM m (e + k)) (mkE m (e + k)) (mkR m (e + k))):=by
 obtain ⟨A, c, rfl, hz, hn⟩:=hx.form
 have L0:=(Lq.mk0 w).z hz
 obtain ⟨s, hs⟩:=nm9 (e + k)
 have hw : IntKind.i64.wrap (e + k) = s:=by rw [← hs, IntKind.wrap_i64]; omega
 have b1 : decide (k < -65536) = false:=decide_eq_false (by omega)
 have b2 : decide (65536 < k) = false:=decide_eq_false (by omega)
 have HM0:=fun v W h => rmake8_any m s v W h (by omega)
 rw [hs]
 generalize mkM m s = M at *
 generalize mkE m s = E at *
 generalize mkR m s = R at *
 have HM:=Hd9 HM0
 clear HM0 hs hx hz hn lm he hk
 go_enter Tryz.func18, Tryz.ntmps18
 go_wp2_with fail
 have L:=((L0.varD (w.heap.size) (by simp) (ng m) A (zl m) c e).varD (w.heap.size + 1) (by simp) false none 0 0 0)
 obtain ⟨c00,c01,c02⟩:=L.b0.a3
 obtain ⟨f00,f01,f02⟩:=L.b0.f3
 obtain ⟨c10,c11,c12⟩:=L.tl.b0.a3
 obtain ⟨f10,f11,f12⟩:=L.tl.b0.f3
 (try go_wp2_with fail)
 refine (HM.out _ _ (L.getZ (v:=.agg #[.bool (ng m), .slice A (zl m) c]) (by simp))).mono ?_
 rintro e w1 ⟨v8, rfl, id, be⟩
 clear c00 f00 c01 f01 c02 f02 c10 f10 c11 f11 c12 f12
 obtain ⟨A9, c9, rfl, _, in9⟩:=id.form
 replace L:=(L.step be).n in9
 clear be in9 id
 obtain ⟨c00,c01,c02⟩:=L.b0.a3
 obtain ⟨f00,f01,f02⟩:=L.b0.f3
 obtain ⟨c10,c11,c12⟩:=L.tl.b0.a3
 (try go_wp2_with fail)
 have LP:=L.putD (by omega) (by first | (simp; done) | (simp; omega)) (ng M) A9 (zl M) c9 (E)
 obtain ⟨k0,k1,k2⟩:=LP.b0.a3
 unfold put3 at k0 k1 k2
 exact bodyPost_ret (v:=.tuple #[.agg #[.bool (ng M), .slice A9 (zl M) c9, .int .i64 (E)], .int .i64 R]) (by simp [results, Tryz.results18, go_sem, k0, k1, k2]) rfl ⟨_, rfl, isD_n LP.hn, LP.below⟩
end Go.Proofs.YtmgbjldogggpcaaGreatDoor


/- The mill's intervals; the laws' two, and their interval between two integers. -/
namespace Go.Proofs.YtmgbjldogggpcaaGreatDoor
set_option maxHeartbeats 64000000
open Go.RowKit
set_option linter.unusedVariables false
set_option linter.unusedSimpArgs false
set_option maxRecDepth 100000
attribute [local go_sem ↓] Go.wp_at_zero Go.wp_at_succ

end Go.Proofs.YtmgbjldogggpcaaGreatDoor


/- The laws' pair of intervals. -/
namespace Go.Proofs.YtmgbjldogggpcaaGreatDoor
set_option maxHeartbeats 64000000
open Go.RowKit
set_option linter.unusedVariables false
set_option linter.unusedSimpArgs false
set_option maxRecDepth 100000
attribute [local go_sem ↓] Go.wp_at_zero Go.wp_at_succ

end Go.Proofs.YtmgbjldogggpcaaGreatDoor


/- What the walks of layer 10's laws lean on. -/
namespace Go.Proofs.YtmgbjldogggpcaaGreatDoor
set_option maxHeartbeats 64000000
open Go.RowKit
set_option linter.unusedVariables false
set_option linter.unusedSimpArgs false
set_option maxRecDepth 100000
attribute [local go_sem ↓] Go.wp_at_zero Go.wp_at_succ

theorem dcm_zero (n f : Int) : dcm n f 0 0 = cmpI n 0:=by
 unfold dcm
 have h:=cmpI_scale n 0 (pow2_pos (f - min f 0).toNat)
 rw [Int.zero_mul] at h ⊢
 exact h
end Go.Proofs.YtmgbjldogggpcaaGreatDoor

