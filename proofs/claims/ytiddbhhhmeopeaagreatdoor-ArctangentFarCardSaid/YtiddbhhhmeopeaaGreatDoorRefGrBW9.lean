/- The reference's On, Unit, FloorRat, CeilRat, Floor, Ceil, Near. -/
import Derived.Test.YtiddbhhhmeopeaaGreatDoorRefGrAW9
import Derived.Test.YtiddbhhhmeopeaaGreatDoorBaseFW9
import Derived.Test.YtiddbhhhmeopeaaGreatDoorBaseEW9
import Derived.Deep.RegionHeld3
import Derived.Deep.DrawnRows
namespace Go.Proofs.YtiddbhhhmeopeaaGreatDoor
set_option maxHeartbeats 64000000
open Go.RowKit
set_option linter.unusedVariables false
set_option linter.unusedSimpArgs false
set_option maxRecDepth 100000
attribute [local go_sem ↓] Go.wp_at_zero Go.wp_at_succ

theorem rperm9_any (p:Int) (w:World) :
  Calls Tryz.prog 83 #[.int .i64 p] w (fun e w' => e = .returned (.bool (permB p))∧w = w'):=by
 unfold permB
 by_cases q1:-2048≤p
 ·have b1:decide (-2048≤p) = true:=decide_eq_true q1
  rw [b1,Bool.true_and]
  go_enter Tryz.func83,Tryz.ntmps83
  go_wp2_with fail
  go_ret
  exact ⟨rfl,rfl⟩
 ·have b1:decide (-2048≤p) = false:=decide_eq_false q1
  rw [b1,Bool.false_and]
  go_enter Tryz.func83,Tryz.ntmps83
  go_wp2_with fail
  go_ret
  exact ⟨rfl,rfl⟩
theorem runit9_any (p:Int) (w:World) (hp1:-9223372036854775808≤p) (hp2:p≤9223372036854775807) :
    Calls Tryz.prog 30 #[.int .i64 p] w (RetDE w (gM (1) p) (gE (1) p) (gR (1) p)):=by
  have HP0:=fun W => rperm9_any p W
  cases hp:permB p
  · rw [(g_no hp _).1,(g_no hp _).2.1,(g_no hp _).2.2]
    rw [hp] at HP0
    have HP:=Hd9 HP0
    clear HP0 hp
    go_enter Tryz.func30,Tryz.ntmps30
    go_wp2_with fail
    have L:=((Lq.mk0 w).varD (w.heap.size) (by simp) false none 0 0 0)
    obtain ⟨c00,c01,c02⟩:=L.b0.a3
    obtain ⟨f00,f01,f02⟩:=L.b0.f3
    (try go_wp2_with fail)
    refine (HP.out _).mono ?_
    rintro e9 w' ⟨rfl,rfl⟩
    go_wp2_with fail
    first
    | exact bodyPost_ret (v:=.tuple #[.agg #[.bool false,.slice none 0 0,.int .i64 0],.int .i64 1]) (by simp [results,Tryz.results30,go_sem,c00,c01,c02]) rfl ⟨_,rfl,isD_zero _,L.below⟩
    | (have LP:=L.putD (by omega) (by first | (simp;done) | (simp;omega)) false none 0 0 0
       obtain ⟨k0,k1,k2⟩:=LP.b0.a3
       unfold put3 at k0 k1 k2
       exact bodyPost_ret (v:=.tuple #[.agg #[.bool false,.slice none 0 0,.int .i64 0],.int .i64 1]) (by simp [results,Tryz.results30,go_sem,k0,k1,k2]) rfl ⟨_,rfl,isD_zero _,LP.below⟩)
  · obtain ⟨hpa,hpb⟩:=perm_yes hp
    rw [hp] at HP0
    have HP:=Hd9 HP0
    have h11:zl 1≤1:=len_le1 (show 1 < 4294967296 by omega)
    have HO:=Hd9 (fun W => rzof_any 1 W (by omega) (by omega))
    have HM0:=fun v W h => rmake8_any 1 (-p) v W h (by omega)
    obtain ⟨M,hM⟩:=nm9 (gM 1 p)
    obtain ⟨E,hE⟩:=nm9 (gE 1 p)
    obtain ⟨R,hR⟩:=nm9 (gR 1 p)
    rw [hM,hE,hR]
    rw [(g_yes hp 1).1] at hM
    rw [(g_yes hp 1).2.1] at hE
    rw [(g_yes hp 1).2.2] at hR
    rw [hM,hE,hR] at HM0
    have HM:=Hd9 HM0
    have hw:IntKind.i64.wrap (-p) = -p:=by rw [IntKind.wrap_i64];omega
    clear HM0 HP0 hM hE hR h11 hp
    go_enter Tryz.func30,Tryz.ntmps30
    go_wp2_with fail
    have L:=((Lq.mk0 w).varD (w.heap.size) (by simp) false none 0 0 0)
    obtain ⟨c00,c01,c02⟩:=L.b0.a3
    obtain ⟨f00,f01,f02⟩:=L.b0.f3
    (try go_wp2_with fail)
    refine (HP.out _).mono ?_
    rintro e9 w' ⟨rfl,rfl⟩
    (try go_wp2_with fail)
    refine (HO.out _).mono ?_
    rintro e w1 ⟨v1,rfl,iz,be⟩
    clear c00 f00 c01 f01 c02 f02
    replace L:=(L.step be).z iz
    clear be iz
    obtain ⟨c00,c01,c02⟩:=L.b0.a3
    obtain ⟨f00,f01,f02⟩:=L.b0.f3
    (try go_wp2_with fail)
    refine (HM.out _ _ (L.getZ (by simp))).mono ?_
    rintro e w2 ⟨v8,rfl,id,be⟩
    clear c00 f00 c01 f01 c02 f02
    obtain ⟨A9,c9,rfl,_,in9⟩:=id.form
    replace L:=(L.step be).n in9
    clear be in9 id
    obtain ⟨c00,c01,c02⟩:=L.b0.a3
    obtain ⟨f00,f01,f02⟩:=L.b0.f3
    (try go_wp2_with fail)
    have LP:=L.putD (by omega) (by first | (simp;done) | (simp;omega)) (ng M) A9 (zl M) c9 (E)
    obtain ⟨k0,k1,k2⟩:=LP.b0.a3
    unfold put3 at k0 k1 k2
    exact bodyPost_ret (v:=.tuple #[.agg #[.bool (ng M),.slice A9 (zl M) c9,.int .i64 (E)],.int .i64 R]) (by simp [results,Tryz.results30,go_sem,k0,k1,k2]) rfl ⟨_,rfl,isD_n LP.hn,LP.below⟩
theorem ron9_any (m e p:Int) (vx:Value) (w:World) (hx:IsD w vx m e) (hp1:-9223372036854775808≤p) (hp2:p≤9223372036854775807) :
  Calls Tryz.prog 50 #[vx,.int .i64 p] w (RetB w (onB m e p)):=by
 obtain ⟨A,c,rfl,hz,hn⟩:=hx.form
 have L0:=(Lq.mk0 w).n hn
 have HP0:=fun W => rperm9_any p W
 obtain ⟨r,hr⟩:=nm9 (onB m e p)
 rw [hr]
 unfold onB at hr
 cases hp:permB p
 ·rw [hp] at HP0 hr
  rw [Bool.false_and] at hr
  subst hr
  have HP:=Hd9 HP0
  clear HP0 hp hx hz hn
  go_enter Tryz.func50,Tryz.ntmps50
  go_wp2_with fail
  have L:=(L0.varD (w.heap.size) (by simp) (ng m) A (zl m) c e)
  obtain ⟨c00,c01,c02⟩:=L.b0.a3
  obtain ⟨f00,f01,f02⟩:=L.b0.f3
  (try go_wp2_with fail)
  refine (HP.out _).mono ?_
  rintro e9 w' ⟨rfl,rfl⟩
  go_wp2_with fail
  go_ret
  exact ⟨by first | rfl | simp,L.below⟩
 ·obtain ⟨hpa,hpb⟩:=perm_yes hp
  rw [hp] at HP0 hr
  rw [Bool.true_and] at hr
  have HP:=Hd9 HP0
  clear HP0 hp hx hz hn
  have hw:IntKind.i64.wrap (-p) = -p:=by rw [IntKind.wrap_i64];omega
  by_cases hm:m = 0
  ·subst hm
   rw [decide_eq_true rfl,Bool.true_or] at hr
   subst hr
   rw [zl_zero] at L0 ⊢
   have hb0:(((0:Nat):Int) == 0) = true:=rfl
   go_enter Tryz.func50,Tryz.ntmps50
   go_wp2_with fail
   have L:=(L0.varD (w.heap.size) (by simp) (ng 0) A 0 c e)
   obtain ⟨c00,c01,c02⟩:=L.b0.a3
   obtain ⟨f00,f01,f02⟩:=L.b0.f3
   (try go_wp2_with fail)
   refine (HP.out _).mono ?_
   rintro e9 w' ⟨rfl,rfl⟩
   go_wp2_with fail
   go_ret
   exact ⟨rfl,L.below⟩
  ·rw [decide_eq_false hm,Bool.false_or] at hr
   subst hr
   have hz0:=zl_pos hm
   have hb0:((zl m:Int) == 0) = false:=by rw [beq_eq_false_iff_ne];omega
   go_enter Tryz.func50,Tryz.ntmps50
   go_wp2_with fail
   have L:=(L0.varD (w.heap.size) (by simp) (ng m) A (zl m) c e)
   obtain ⟨c00,c01,c02⟩:=L.b0.a3
   obtain ⟨f00,f01,f02⟩:=L.b0.f3
   (try go_wp2_with fail)
   refine (HP.out _).mono ?_
   rintro e9 w' ⟨rfl,rfl⟩
   go_wp2_with fail
   go_ret
   exact ⟨by first | rfl | simp,L.below⟩

end Go.Proofs.YtiddbhhhmeopeaaGreatDoor
