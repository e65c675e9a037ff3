/- The program's grid: which precisions are permitted; the helper with a function value; the floor of a dyadic. -/
import Derived.Test.YtiddbhhhmeopeaaGreatDoorBaseME7
import Derived.Test.YtiddbhhhmeopeaaGreatDoorBaseGE7
import Derived.Deep.RegionHeld3
import Derived.Deep.DrawnRows
namespace Go.Proofs.YtiddbhhhmeopeaaGreatDoor
set_option maxHeartbeats 64000000
open Go.RowKit
set_option linter.unusedVariables false
set_option linter.unusedSimpArgs false
set_option maxRecDepth 100000
attribute [local go_sem ↓] Go.wp_at_zero Go.wp_at_succ

theorem plain1 (p : Int) : Plain #[.int .i64 p]:=fun j x => by
 match j with
 | 0 => simp
 | j + 1 => simp
theorem Var.c10 {w : World} {g : Nat} {t : TypeId} {a : Value} (h : Var w g t #[a]) : w.cell? ⟨g, 0, none⟩ = some a:=h.cell 0
theorem Lq.var1 {w0 w : World} {ns : List (Value × Nat)} {zs : List (Value × Int)} {qs : List (Value × Int × Nat)} {bs : List (Nat × TypeId × Array Value)} (h : Lq w0 w ns zs qs bs) (g : Nat) (hg : g = w.heap.size) (p : Int) : Lq w0 (w.alloc (.cells #[.int .i64 p] 3)) ns zs qs ((g, 3, #[.int .i64 p]) :: bs):=h.var g hg _ _ (plain1 p)
theorem cutD_up {m e p : Int} (k : Nat) (h : e + p = (k : Int)) : cutQ (dq m e) p = m * 2 ^ k:=by
 have e1 : dq m e = dq (m * 2 ^ k) (-p):=dq_eq (F := -p) (by rw [show -p - -p = 0 by omega, show e - -p = (k : Int) by omega]; simp) (by omega) (by omega)
 rw [e1, cut_self]
theorem cutD_down {m e p : Int} (k : Nat) (h : e + p = -(k : Int)) : cutQ (dq m e) p = m / 2 ^ k:=by
 have h2:=pow2_pos k
 have e0 : ∀ C : Int, dq C (-p) = dq (C * 2 ^ k) e:=fun C => dq_eq (F:=e) (by rw [show e - e = 0 by omega, show -p - e = (k : Int) by omega]; simp) (by omega) (by omega)
 refine cut_unique ?_ ?_
 ·rw [e0, dq_scale, dq_scale m]
  exact Rat.mul_le_mul_of_nonneg_right (Rat.intCast_le_intCast.2 (Int.ediv_mul_le m (pow2_ne k))) (Rat.le_of_lt (dq_pos _))
 ·rw [← dq_succ, e0, dq_scale m, dq_scale ((m / 2 ^ k + 1) * 2 ^ k)]
  refine Rat.mul_lt_mul_of_pos_right (Rat.intCast_lt_intCast.2 ?_) (dq_pos _)
  have h3:=Int.lt_ediv_add_one_mul_self m h2
  exact h3
theorem zl_cutD (m e p : Int) : zl (cutQ (dq m e) p) ≤ zl m + ((e + p).toNat / 32 + 1):=by
 by_cases h : 0 ≤ e + p
 ·rw [cutD_up (e + p).toNat (by omega)]
  exact zl_two m (e + p).toNat
 ·rw [cutD_down (-(e + p)).toNat (by omega)]
  refine Nat.le_trans (m:=zl m) ?_ (by omega)
  unfold zl
  exact len_mono (Int.natAbs_ediv_le_natAbs _ _)

theorem gperm_any (p : Int) (w : World) :
  Calls Tryz.prog 218 #[.int .i64 p] w (fun e w' => e = .returned (.bool (permB p)) ∧ w = w'):=by
 unfold permB
 by_cases q1 : -2048 ≤ p
 ·have b1 : decide (-2048 ≤ p) = true:=decide_eq_true q1
  rw [b1, Bool.true_and]
  go_enter Tryz.func218, Tryz.ntmps218
  go_wp2_with fail
  go_ret
  exact ⟨rfl, rfl⟩
 ·have b1 : decide (-2048 ≤ p) = false:=decide_eq_false q1
  rw [b1, Bool.false_and]
  go_enter Tryz.func218, Tryz.ntmps218
  go_wp2_with fail
  go_ret
  exact ⟨rfl, rfl⟩
theorem gmult_any (k : Nat) (cap : Array Value) (hen : ∀ args w, (callFunc k args).run Tryz.prog w = .ok (.enter k args) w) (C p : Int) (lC : permB p = true → zl C ≤ 30000) (w : World) (hp1 : -9223372036854775808 ≤ p) (hp2 : p ≤ 9223372036854775807) (hT : Tab w) (hf : permB p = true → ∀ W, Below w.heap.size w W → Calls Tryz.prog k cap W (RetZ W C)) :
    Calls Tryz.prog 165 #[.int .i64 p, .func (.func k) #[] cap] w (RetDE w (gM (C) p) (gE (C) p) (gR (C) p)):=by
  have HP0:=fun W => gperm_any p W
  cases hp : permB p
  · rw [(g_no hp _).1, (g_no hp _).2.1, (g_no hp _).2.2]
    rw [hp] at HP0
    have HP:=Hd9 HP0
    clear HP0 hp
    go_enter Tryz.func165, Tryz.ntmps165
    go_wp2_with fail
    have L:=((Lq.mk0 w).varD (w.heap.size) (by simp) false none 0 0 0)
    obtain ⟨c00,c01,c02⟩:=L.b0.a3
    obtain ⟨f00,f01,f02⟩:=L.b0.f3
    (try go_wp2_with fail)
    refine (HP.out _).mono ?_
    rintro e9 w' ⟨rfl, rfl⟩
    go_wp2_with fail
    first
    | exact bodyPost_ret (v:=.tuple #[.agg #[.bool false, .slice none 0 0, .int .i64 0], .int .i64 1]) (by simp [results, Tryz.results165, go_sem, c00, c01, c02]) rfl ⟨_, rfl, isD_zero _, L.below⟩
    | (have LP:=L.putD (by omega) (by first | (simp; done) | (simp; omega)) false none 0 0 0
       obtain ⟨k0,k1,k2⟩:=LP.b0.a3
       unfold put3 at k0 k1 k2
       exact bodyPost_ret (v:=.tuple #[.agg #[.bool false, .slice none 0 0, .int .i64 0], .int .i64 1]) (by simp [results, Tryz.results165, go_sem, k0, k1, k2]) rfl ⟨_, rfl, isD_zero _, LP.below⟩)
  · obtain ⟨hpa, hpb⟩:=perm_yes hp
    rw [hp] at HP0
    have HP:=Hd9 HP0
    have HF0:=hf hp
    have HM0:=fun v W h h2 => dmake_any C (-p) v W h (lC hp) h2
    obtain ⟨M, hM⟩:=nm9 (gM C p)
    obtain ⟨E, hE⟩:=nm9 (gE C p)
    obtain ⟨R, hR⟩:=nm9 (gR C p)
    rw [hM, hE, hR]
    rw [(g_yes hp C).1] at hM
    rw [(g_yes hp C).2.1] at hE
    rw [(g_yes hp C).2.2] at hR
    rw [hM, hE, hR] at HM0
    have HF:=Hd9 HF0
    have HM:=Hd9 HM0
    have HT:=Hd9 (fun W (hW : Below w.heap.size w W) => hT.mono hW)
    have hw : IntKind.i64.wrap (-p) = -p:=by rw [IntKind.wrap_i64]; omega
    clear HM0 HP0 HF0 hM hE hR hp hT hf lC
    go_enter Tryz.func165, Tryz.ntmps165
    go_wp2_with fail
    have L:=((Lq.mk0 w).varD (w.heap.size) (by simp) false none 0 0 0)
    obtain ⟨c00,c01,c02⟩:=L.b0.a3
    obtain ⟨f00,f01,f02⟩:=L.b0.f3
    (try go_wp2_with fail)
    refine (HP.out _).mono ?_
    rintro e9 w' ⟨rfl, rfl⟩
    (try go_wp2_with fail)
    refine (HF.out _ L.below).mono ?_
    rintro e w1 ⟨v2, rfl, iz, be⟩
    clear c00 f00 c01 f01 c02 f02
    replace L:=(L.step be).z iz
    clear be iz
    obtain ⟨c00,c01,c02⟩:=L.b0.a3
    obtain ⟨f00,f01,f02⟩:=L.b0.f3
    (try go_wp2_with fail)
    refine (HM.out _ _ L.hz (HT.out _ L.below)).mono ?_
    rintro e w2 ⟨v8, rfl, id, be⟩
    clear c00 f00 c01 f01 c02 f02
    obtain ⟨A9, c9, rfl, _, in9⟩:=id.form
    replace L:=(L.step be).n in9
    clear be in9 id
    obtain ⟨c00,c01,c02⟩:=L.b0.a3
    obtain ⟨f00,f01,f02⟩:=L.b0.f3
    (try go_wp2_with fail)
    have LP:=L.putD (by omega) (by first | (simp; done) | (simp; omega)) (ng M) A9 (zl M) c9 (E)
    obtain ⟨k0,k1,k2⟩:=LP.b0.a3
    unfold put3 at k0 k1 k2
    exact bodyPost_ret (v:=.tuple #[.agg #[.bool (ng M), .slice A9 (zl M) c9, .int .i64 (E)], .int .i64 R]) (by simp [results, Tryz.results165, go_sem, k0, k1, k2]) rfl ⟨_, rfl, isD_n LP.hn, LP.below⟩
theorem gfl_any (m e p : Int) (vx : Value) (w : World) (hx : IsD w vx m e) (lm : zl m ≤ 2000) (he : -30000 ≤ e ∧ e ≤ 30000) (hp : -9000 ≤ p ∧ p ≤ 9000) (hT : Tab w) :
  Calls Tryz.prog 189 #[vx, .int .i64 p] w (RetZ w (cutQ (dq m e) p)):=by
 obtain ⟨A, c, rfl, hz, hn⟩:=hx.form
 have L0:=(Lq.mk0 w).z hz
 obtain ⟨s, hs⟩:=nm9 (e + p)
 have hw : IntKind.i64.wrap (e + p) = s:=by rw [← hs, IntKind.wrap_i64]; omega
 by_cases q1 : s < 0
 ·obtain ⟨k, hk⟩ : ∃ k : Nat, s = -(k : Int):=⟨(-s).toNat, by omega⟩
  have hwk : IntKind.i64.wrap (-s) = (k : Int):=by rw [IntKind.wrap_i64]; omega
  have b1 : decide (s < 0) = true:=decide_eq_true q1
  rw [cutD_down k (by omega)]
  have H1:=Hd9 (fun v W h (hW : Below w.heap.size w W) => zshr_any m v W h (by omega) k (by omega) (hT.mono hW))
  generalize m / 2 ^ k = C at *
  clear hk hx hz hn hs lm he hp hT
  go_enter Tryz.func189, Tryz.ntmps189
  go_wp2_with fail
  have L:=((L0.varD (w.heap.size) (by simp) (ng m) A (zl m) c e).varZ (w.heap.size + 1) (by simp) false none 0 0)
  obtain ⟨c00,c01⟩:=L.b0.a2
  obtain ⟨f00,f01⟩:=L.b0.f2
  obtain ⟨c10,c11,c12⟩:=L.tl.b0.a3
  obtain ⟨f10,f11,f12⟩:=L.tl.b0.f3
  (try go_wp2_with fail)
  refine (H1.out _ _ (L.getZ (v:=.agg #[.bool (ng m), .slice A (zl m) c]) (by simp)) L.below).mono ?_
  rintro e w1 ⟨v9, rfl, iz, be⟩
  clear c00 f00 c01 f01 c10 f10 c11 f11 c12 f12
  replace L:=(L.step be).z iz
  obtain ⟨A9, c9, rfl, _⟩:=iz.form
  clear be iz
  obtain ⟨c00,c01⟩:=L.b0.a2
  obtain ⟨f00,f01⟩:=L.b0.f2
  obtain ⟨c10,c11,c12⟩:=L.tl.b0.a3
  obtain ⟨f10,f11,f12⟩:=L.tl.b0.f3
  (try go_wp2_with fail)
  have LP:=L.putZ (by omega) (by first | (simp; done) | (simp; omega)) (ng C) A9 (zl C) c9
  obtain ⟨k0,k1⟩:=LP.b0.a2
  unfold put2 at k0 k1
  exact bodyPost_ret (v:=.agg #[.bool (ng C), .slice A9 (zl C) c9]) (by simp [results, Tryz.results189, go_sem, k0, k1]) rfl ⟨_, rfl, LP.hz, LP.below⟩
 ·obtain ⟨k, rfl⟩ : ∃ k : Nat, s = (k : Int):=⟨s.toNat, by omega⟩
  have b1 : decide ((k : Int) < 0) = false:=decide_eq_false q1
  rw [cutD_up k (by omega)]
  have H1:=Hd9 (fun v W h => zshl_any m v W h (by omega) k (by omega))
  generalize m * 2 ^ k = C at *
  clear hx hz hn hs lm he hp hT
  go_enter Tryz.func189, Tryz.ntmps189
  go_wp2_with fail
  have L:=((L0.varD (w.heap.size) (by simp) (ng m) A (zl m) c e).varZ (w.heap.size + 1) (by simp) false none 0 0)
  obtain ⟨c00,c01⟩:=L.b0.a2
  obtain ⟨f00,f01⟩:=L.b0.f2
  obtain ⟨c10,c11,c12⟩:=L.tl.b0.a3
  obtain ⟨f10,f11,f12⟩:=L.tl.b0.f3
  (try go_wp2_with fail)
  refine (H1.out _ _ (L.getZ (v:=.agg #[.bool (ng m), .slice A (zl m) c]) (by simp))).mono ?_
  rintro e w1 ⟨v9, rfl, iz, be⟩
  clear c00 f00 c01 f01 c10 f10 c11 f11 c12 f12
  replace L:=(L.step be).z iz
  obtain ⟨A9, c9, rfl, _⟩:=iz.form
  clear be iz
  obtain ⟨c00,c01⟩:=L.b0.a2
  obtain ⟨f00,f01⟩:=L.b0.f2
  obtain ⟨c10,c11,c12⟩:=L.tl.b0.a3
  obtain ⟨f10,f11,f12⟩:=L.tl.b0.f3
  (try go_wp2_with fail)
  have LP:=L.putZ (by omega) (by first | (simp; done) | (simp; omega)) (ng C) A9 (zl C) c9
  obtain ⟨k0,k1⟩:=LP.b0.a2
  unfold put2 at k0 k1
  exact bodyPost_ret (v:=.agg #[.bool (ng C), .slice A9 (zl C) c9]) (by simp [results, Tryz.results189, go_sem, k0, k1]) rfl ⟨_, rfl, LP.hz, LP.below⟩

end Go.Proofs.YtiddbhhhmeopeaaGreatDoor
