/- Joined: ExPC, ExF, RefExE, ExH, ExK, LnH, ExL, ExJ, LnJ, ExPE, DyOpen, IvOpen (what the law leans on). -/
import Derived.Test.YtmlddkiccjpoeaaGreatDoorBaseII
import Derived.Test.YtmlddkiccjpoeaaGreatDoorBaseJI
import Derived.Test.YtmlddkiccjpoeaaGreatDoorBaseDI
import Derived.Test.YtmlddkiccjpoeaaGreatDoorBaseEI
import Derived.Test.YtmlddkiccjpoeaaGreatDoorBaseVI
import Derived.Test.YtmlddkiccjpoeaaGreatDoorBaseWI
import Derived.Test.YtmlddkiccjpoeaaGreatDoorRefGrBI
import Derived.Test.YtmlddkiccjpoeaaGreatDoorBaseXI
import Derived.Test.YtmlddkiccjpoeaaGreatDoorBaseZI
import Derived.Test.YtmlddkiccjpoeaaGreatDoorJI1
import Derived.Test.YtmlddkiccjpoeaaGreatDoorJI3
import Derived.ChangeOld
import Derived.Deep.Cut
import Derived.Deep.CutRange
import Derived.Deep.DrawnRows
import Derived.Deep.RegionHeld3
import Derived.Lib.SmallJoins
import Derived.OpenShut
import Derived.ProofKit
namespace Go.Proofs.YtmlddkiccjpoeaaGreatDoor
open Go.RowKit
set_option linter.unusedVariables false
set_option linter.unusedSimpArgs false
set_option maxRecDepth 100000
attribute [local go_sem ↓] Go.wp_at_zero Go.wp_at_succ

/-- The ceiling of an exponent. -/
def clZ (m e : Int) : Int := -(cutQ (-(dq m e)) 0)
theorem clZ_up (m e : Int) : dq m e ≤ ((clZ m e : Int) : Rat) := by
  have h := cut_lo (-(dq m e)) 0
  rw [Int.neg_zero, dq_int] at h
  unfold clZ
  rw [Rat.intCast_neg]
  generalize dq m e = q at *
  grind
theorem clZ_le {m e b : Int} (h : dq m e ≤ (b : Rat)) : clZ m e ≤ b := by
  have h1 := cut_hi (-(dq m e)) 0
  rw [Int.neg_zero, dq_int, dq_int] at h1
  unfold clZ
  have h2 : ((-(b + 1) : Int) : Rat) < ((cutQ (-(dq m e)) 0 : Int) : Rat) := by
    rw [Rat.intCast_neg, Rat.intCast_add]
    generalize dq m e = q at *
    grind
  have := Rat.intCast_lt_intCast.1 h2
  omega
theorem clZ_ge {m e b : Int} (h : (b : Rat) ≤ dq m e) : b ≤ clZ m e := by
  have := Rat.intCast_le_intCast.1 (Rat.le_trans h (clZ_up m e))
  exact this

set_option maxHeartbeats 8000000 in
theorem xdig_any (m e : Int) (vx : Value) (w : World) (hx : IsD w vx m e) (lm : zl m ≤ 100) (he : -10000 ≤ e ∧ e ≤ 10000) (hc1 : -100000 ≤ clZ m e) (hc2 : clZ m e ≤ 100000) (hT : Tab w) :
    Calls Tryz.prog 113 #[vx] w (RetI w (dgN (clZ m e) : Int)) := by
  obtain ⟨A, c, rfl, _, hn⟩ := hx.form
  have L0 := (Lq.mk0 w).n hn
  have g1 := fun x W h (hW : Below w.heap.size w W) => gceil_any m e 0 x W h (by omega) (by omega) (by omega) (by omega) (hT.mono hW)
  have hcl : -(cutQ (-(dq m e)) 0) = clZ m e := rfl
  rw [hcl] at g1
  obtain ⟨C, hC⟩ : ∃ z, clZ m e = z := ⟨_, rfl⟩
  rw [hC] at g1 hc1 hc2 ⊢
  obtain ⟨e1, e2, e3⟩ := g_yes (p := 0) (by decide) C
  have hCb : AbP C 17 := by
    have e : (2 : Nat) ^ 17 = 131072 := by decide
    unfold AbP
    rw [e]
    omega
  rw [e1, e2, e3, Int.neg_zero, (nf hCb (by omega)).1] at g1
  have g2 := fun x W h => xwhole_any C x W h (by omega)
  obtain ⟨D, hD⟩ : ∃ D, dgN C = D := ⟨_, rfl⟩
  obtain ⟨q, hq⟩ : ∃ q, (3 * C + 1).tdiv 2 = q := ⟨_, rfl⟩
  have hq2 : q = (3 * C + 1) / 2 ∨ (3 * C + 1 < 0 ∧ q = (3 * C + 1) / 2 + 1) := by
    rw [Int.tdiv_eq_ediv] at hq
    split at hq
    · left; omega
    · rename_i h9
      right
      have h8 : ¬ 0 ≤ 3 * C + 1 := fun h => h9 (Or.inl h)
      rw [show Int.sign 2 = 1 from rfl] at hq
      omega
  have hqb : max q 0 = (D : Int) := by
    rw [← hD]
    unfold dgN
    split <;> omega
  have w1 : IntKind.i64.wrap (3 * C) = 3 * C := by rw [IntKind.wrap_i64]; omega
  have w2 : IntKind.i64.wrap (3 * C + 1) = 3 * C + 1 := by rw [IntKind.wrap_i64]; omega
  have w3 : IntKind.i64.wrap q = q := by rw [IntKind.wrap_i64]; omega
  rw [hD]
  generalize mkM C 0 = M at *
  generalize mkE C 0 = E at *
  have G1 := Lib.hid g1
  have G2 := Lib.hid g2
  clear g1 g2 hD hC hcl e1 e2 e3 hCb hc1 hc2 hT hx hn
  go_enter Tryz.func113, Tryz.ntmps113
  have L := (L0.varD (w.heap.size) (by simp) (ng m) A (zl m) c e)
  have c00 := L.b0.c30
  have c01 := L.b0.c31
  have c02 := L.b0.c32
  (try go_wp2_with fail)
  refine (G1.out _ _ (isD_n (m := m) (e := e) (s := .slice A (zl m) c) (L.getN (by simp))) L.below).mono ?_
  rintro e w1 ⟨v9, rfl, iz, be⟩
  clear c00 c01 c02
  obtain ⟨A1, c1, rfl, _, in9⟩ := iz.form
  replace L := (L.step be).n in9
  clear be iz in9
  have hl9 := L.b0.lt
  replace L := L.varD w1.heap.size rfl (ng M) A1 (zl M) c1 E
  have c00 := L.b0.c30
  have c01 := L.b0.c31
  have c02 := L.b0.c32
  go_wp2_with fail
  clear c00 c01 c02
  obtain ⟨g1, hg1⟩ : ∃ g9, w1.heap.size = g9 := ⟨_, rfl⟩
  rw [hg1] at L hl9 ⊢
  clear hg1
  have hl_g1 := hl9
  clear hl9
  refine (G2.out _ _ (isD_n (m := M) (e := E) (s := .slice A1 (zl M) c1) (L.getN (by simp)))).mono ?_
  rintro e w2 ⟨rfl, be⟩
  replace L := L.step be
  clear be
  (try go_wp2_with fail)
  go_ret
  exact ⟨rfl, L.below⟩
/-- What a power is: not further off than 2^-(k + 20). -/
def RetPw (w : World) (k : Nat) (m e : Int) (en : Ending) (w' : World) : Prop := ∃ (s : Int) (p : Nat), p ≤ 700 ∧ AbP s 1100 ∧ 0 ≤ s ∧ LoE (dq s (-(p : Int)) - dq 1 (-((k : Int) + 20))) (dq m e) ∧ UpE (dq m e) (dq s (-(p : Int)) + dq 1 (-((k : Int) + 20))) ∧ RetD8 w (mkM s (-(p : Int))) (mkE s (-(p : Int))) en w'
theorem RetPw.zero {w : World} {k : Nat} {m e : Int} {en : Ending} {w' : World} (h : dq m e < -4096) (hk : k ≤ 220) (r : RetD8 w 0 0 en w') : RetPw w k m e en w' := by
  have hu := dq_pos (-((k : Int) + 20))
  refine ⟨0, 0, by omega, AbP.zero _, by omega, (LoE.zero _).down ?_, (pfar_up (Rat.le_of_lt h) (w := k) (by omega)).up ?_, ?_⟩
  · rw [dq_zero]
    generalize dq 1 (-((k : Int) + 20)) = u at *
    grind
  · rw [dq_zero]
    generalize dq 1 (-((k : Int) + 20)) = u at *
    grind
  · rw [show (-((0 : Nat) : Int)) = 0 from rfl, nf00.1, nf00.2]
    exact r
theorem sq_AbP {T X : Int} {p : Nat} (hX : X.natAbs * 2 ^ 32 ≤ 2 ^ p) (hT : AbP T p) (hp : 1 ≤ p) : AbP (T * X / 2 ^ p) p := by
  have h := (pwT_sz (T := T) hX (Nat.le_refl 1)).1
  have e : pwT X p 1 T = T * X / 2 ^ p := by
    unfold pwT
    rw [show ((1 : Nat) : Int) = 1 from rfl, Int.ediv_one]
  rw [e] at h
  unfold AbP at *
  have h2 : 2 ≤ 2 ^ p := Nat.pow_le_pow_right (n := 2) (i := 1) (by omega) hp
  have h3 := Nat.div_mul_le_self T.natAbs 4294967296
  generalize T.natAbs / 4294967296 = q at *
  omega

set_option maxHeartbeats 16000000 in
theorem xpow_any (m e : Int) (k : Nat) (vx : Value) (w : World) (hx : IsD w vx m e) (lm : zl m ≤ 100) (he : -10000 ≤ e ∧ e ≤ 3000) (hv : Dv m e) (hhi : dq m e ≤ 200) (hk : k ≤ 220) (hT : Tab w) :
    Calls Tryz.prog 65 #[vx, .int .i64 (k : Int)] w (RetPw w k m e) := by
  obtain ⟨A, c, rfl, _, hn⟩ := hx.form
  have L0 := (Lq.mk0 w).n hn
  have HT := Lib.hid (fun W (hW : Below w.heap.size w W) => hT.mono hW)
  have hb4 : AbP (-4096) 12 := by unfold AbP; decide
  obtain ⟨z1, z2, z3, z4, z5, z6⟩ := nf hb4 (by omega)
  rw [dq_int] at z6
  have g1 := fun W (hW : Below w.heap.size w W) => dof_any (-4096) W (by omega) (by omega) (hT.mono hW)
  have g2 := fun x y W h j => dcmp_any m e (mkM (-4096) 0) (mkE (-4096) 0) x y W h j (by omega) (by omega) (by omega) (by omega)
  have hlt := dcm_lt m e (mkM (-4096) 0) (mkE (-4096) 0)
  rw [z6] at hlt
  rw [show cmpI (m * 2 ^ (e - min e (mkE (-4096) 0)).toNat) (mkM (-4096) 0 * 2 ^ (mkE (-4096) 0 - min e (mkE (-4096) 0)).toNat) = dcm m e (mkM (-4096) 0) (mkE (-4096) 0) from rfl] at g2
  generalize dcm m e (mkM (-4096) 0) (mkE (-4096) 0) = cm at *
  generalize mkM (-4096) 0 = Mb at *
  generalize mkE (-4096) 0 = Eb at *
  have G1 := Lib.hid g1
  have G2 := Lib.hid g2
  clear g1 g2 z1 z2 z3 z4 z5 z6 hb4 hx
  rcases Int.lt_or_le cm 0 with hcm | hcm
  · have d1 : decide (cm < 0) = true := decide_eq_true hcm
    have hfar := hlt.1 hcm
    clear hlt
    go_enter Tryz.func65, Tryz.ntmps65
    have L := ((L0.varD (w.heap.size) (by simp) (ng m) A (zl m) c e).varD (w.heap.size + 1) (by simp) false none 0 0 0)
    (try go_wp2_with fail)
    replace L := L.drew
    have c10 := L.tl.b0.c30
    have c11 := L.tl.b0.c31
    have c12 := L.tl.b0.c32
    go_region_held3 (fun w' => w'.cell? ⟨w.heap.size, 0, none⟩ = some (.bool (ng m)) ∧ w'.cell? ⟨w.heap.size, 1, none⟩ = some (.slice A (zl m) c) ∧ w'.cell? ⟨w.heap.size, 2, none⟩ = some (.int .i64 e)) (first | (with_reducible exact ⟨L.tl.b0.c30, L.tl.b0.c31, L.tl.b0.c32⟩) | exact ⟨L.tl.b0.c30, L.tl.b0.c31, L.tl.b0.c32⟩) (first | (go_at_call 64; (with_reducible refine (G1.out _ ?_ ).mono ?_); (· exact L.below); rintro e wh ⟨vh, rfl, id, be⟩; obtain ⟨A1, c1, rfl, _, in9⟩ := id.form; replace L := (L.step be).n in9; clear be id in9) | (go_at_call 41; (with_reducible refine (G2.out _ _ _ ?_ ?_ ).mono ?_); (· (refine isD_n (L.getN ?_); (repeat (first | (with_reducible exact List.mem_cons_self) | apply List.mem_cons_of_mem)))); (· (refine isD_n (L.getN ?_); (repeat (first | (with_reducible exact List.mem_cons_self) | apply List.mem_cons_of_mem)))); rintro e wh ⟨rfl, be⟩; replace L := L.step be; clear be))
    clear c10 c11 c12
    have c00 := L.b0.c30
    have f00 := L.b0.fr 0
    have c01 := L.b0.c31
    have f01 := L.b0.fr 1
    have c02 := L.b0.c32
    have f02 := L.b0.fr 2
    go_wp2_with fail
    clear c00 f00 c01 f01 c02 f02
    have LP := L.putD (by omega) (by first | (simp; done) | (simp; omega)) (false) none (0) 0 (0)
    have k0 := LP.b0.c30
    have k1 := LP.b0.c31
    have k2 := LP.b0.c32
    unfold put3 at k0 k1 k2
    exact bodyPost_ret (v := .agg #[.bool (false), .slice none (0) 0, .int .i64 (0)]) (by simp [results, Tryz.results65, go_sem, k0, k1, k2]) rfl (RetPw.zero hfar hk ⟨_, rfl, ⟨.slice none 0 0, by simp [ng], IsN.zero _⟩, LP.below⟩)
  · have d1 : decide (cm < 0) = false := decide_eq_false (by omega)
    have hnear : -4096 ≤ dq m e := by
      refine Rat.not_lt.1 fun hl => ?_
      have := hlt.2 hl
      omega
    clear hlt hcm
    have hen : ∀ args w, (callFunc 115 args).run Tryz.prog w = .ok (.enter 115 args) w := enters_of Tryz.func115 (by kernel_rfl) rfl
    obtain ⟨tp1, tp2⟩ := top_bd m e
    have htl : topZ m e ≤ 13 := by
      by_cases h0 : m = 0
      · subst h0; unfold topZ; rw [if_pos rfl]; omega
      · refine (top_iff (K := 13) (by omega)).2 ⟨?_, ?_⟩
        · have v : dq 1 13 = 8192 := by decide +kernel
          rw [v]
          clear tp1 tp2 hhi
          generalize dq m e = q at *
          grind
        · have v : dq 1 13 = 8192 := by decide +kernel
          rw [v]
          clear tp1 tp2 hnear
          generalize dq m e = q at *
          grind
    have htl2 : -20000 ≤ topZ m e := by unfold topZ; split <;> omega
    obtain ⟨h, hh⟩ : ∃ h : Nat, max (topZ m e + 64) 0 = (h : Int) := ⟨(max (topZ m e + 64) 0).toNat, by omega⟩
    have hcl : clZ m e ≤ 200 := clZ_le (by exact_mod_cast hhi)
    have hcl2 : -4096 ≤ clZ m e := clZ_ge (by exact_mod_cast hnear)
    have g3 := fun x W h (hW : Below w.heap.size w W) => xdig_any m e x W h lm (by omega) (by omega) (by omega) (HT.out W hW)
    obtain ⟨dg, hdg⟩ : ∃ dg, dgN (clZ m e) = dg := ⟨_, rfl⟩
    have hdgb : dg ≤ 301 := by rw [← hdg]; unfold dgN; split <;> omega
    have hupd := dg_up (clZ_up m e)
    rw [hdg] at g3 hupd
    obtain ⟨p, hp⟩ : ∃ p, k + 32 + h + dg = p := ⟨_, rfl⟩
    have hpb : p ≤ 700 := by omega
    have H : PwH m e k h p dg := by
      refine ⟨hp.symm, hupd, ?_, ?_, hpb⟩
      · exact Rat.le_trans (Rat.neg_le_neg (dq_anti (by omega))) tp1
      · exact Rat.le_trans tp2 (dq_anti (by omega))
    have g4 := fun x W h => dtop_any m e x W h (by omega) (by omega) (dv_zero hv)
    have g5 := fun x W hx (hW : Below w.heap.size w W) => dshift_any m e (-(h : Int)) x W hx (by omega) (by omega) (by omega) (HT.out W hW)
    have hr5 : mkR m (e + -(h : Int)) = 0 := mk_fits2 (by omega) (by omega) (by omega)
    rw [hr5] at g5
    have hz5 := zl_mk m (e + -(h : Int))
    have he5 := mkE_at hr5 (k := 100) (by omega)
    have hd5 := dq_mk hr5
    have g6 := fun x W hx (hW : Below w.heap.size w W) => gnear_any (mkM m (e + -(h : Int))) (mkE m (e + -(h : Int))) (p : Int) x W hx (by omega) (by omega) (by omega) (by omega) (HT.out W hW)
    have hpm : permB (p : Int) = true := by
      unfold permB
      rw [decide_eq_true (show (-2048 : Int) ≤ (p : Int) by omega), decide_eq_true (show (p : Int) ≤ 8192 by omega)]
      rfl
    rw [hd5, show (cutQ (dq m (e + -(h : Int))) ((p : Int) + 1) + 1) / 2 = nrX m e h p from rfl] at g6
    obtain ⟨gy1, gy2, gy3⟩ := g_yes hpm (nrX m e h p)
    obtain ⟨x1, x2, x3, x4, x5⟩ := H.arg
    have hXp : AbP (nrX m e h p) p := by
      unfold AbP
      have : (nrX m e h p).natAbs * 1 ≤ (nrX m e h p).natAbs * 2 ^ 32 := Nat.mul_le_mul_left _ (by decide)
      omega
    obtain ⟨nx1, nx2, nx3, nx4, nx5⟩ := np hXp (by omega) (show p ≤ 3000 by omega)
    rw [gy1, gy2, gy3, nx1] at g6
    have g7 := fun (A : Option Addr) (c : Nat) (W : World) (hW : Below w.heap.size w W) (hx : IsN W (.slice A (zl (mkM (nrX m e h p) (-(p : Int)))) c) (mkM (nrX m e h p) (-(p : Int))).natAbs) => xsum_any 115 hen (nrX m e h p) p (.agg #[.bool (ng (mkM (nrX m e h p) (-(p : Int)))), .slice A (zl (mkM (nrX m e h p) (-(p : Int)))) c, .int .i64 (mkE (nrX m e h p) (-(p : Int))), .int .i64 (p : Int)]) W x1 hpb (HT.out W hW) (fun k T vt W2 ht hTa hk1 hk2 hW2 => xnext_any (nrX m e h p) T p k A c vt W2 (hx.mono hW2) ht hXp hTa (sq_AbP x1 hTa (by omega)) hpb hk1 (by omega) ((HT.out W hW).mono hW2))
    clear gy1 gy2 gy3 nx1 nx2 nx3 nx4 nx5 hd5 he5 hz5 hr5 hcl hcl2 hupd hhi hnear tp1 tp2 x1 x2 x3 x4 x5 hXp hpm
    obtain ⟨Tz, hTz⟩ : ∃ z, topZ m e = z := ⟨_, rfl⟩
    rw [hTz] at g4 hh htl htl2
    have hhb : h ≤ 77 := by omega
    have w1 : IntKind.i64.wrap (Tz + 64) = Tz + 64 := by rw [IntKind.wrap_i64]; omega
    have w2 : IntKind.i64.wrap ((k : Int) + 32) = (k : Int) + 32 := by rw [IntKind.wrap_i64]; omega
    have w3 : IntKind.i64.wrap ((k : Int) + 32 + (h : Int)) = (k : Int) + 32 + (h : Int) := by rw [IntKind.wrap_i64]; omega
    have w4 : IntKind.i64.wrap ((k : Int) + 32 + (h : Int) + (dg : Int)) = (p : Int) := by rw [IntKind.wrap_i64]; omega
    have w5 : IntKind.i64.wrap (-(h : Int)) = -(h : Int) := by rw [IntKind.wrap_i64]; omega
    have HH := Lib.hid H
    have HP := Lib.hid (And.intro hpb (And.intro hhb hdgb))
    clear H hTz hdg hp hpb hdgb htl htl2 hhb
    obtain ⟨X, hX⟩ : ∃ z, nrX m e h p = z := ⟨_, rfl⟩
    rw [hX] at g6 g7
    have HX := Lib.hid hX
    clear hX
    generalize mkM X (-(p : Int)) = Mx at *
    generalize mkE X (-(p : Int)) = Ex at *
    generalize mkM m (e + -(h : Int)) = M1 at *
    generalize mkE m (e + -(h : Int)) = E1 at *
    have G3 := Lib.hid g3
    have G4 := Lib.hid g4
    have G5 := Lib.hid g5
    have G6 := Lib.hid g6
    have G7 := Lib.hid g7
    clear g3 g4 g5 g6 g7 hv lm he
    go_enter Tryz.func65, Tryz.ntmps65
    have L := ((L0.varD (w.heap.size) (by simp) (ng m) A (zl m) c e).varD (w.heap.size + 1) (by simp) false none 0 0 0)
    (try go_wp2_with fail)
    replace L := L.drew
    have c10 := L.tl.b0.c30
    have c11 := L.tl.b0.c31
    have c12 := L.tl.b0.c32
    go_region_held3 (fun w' => w'.cell? ⟨w.heap.size, 0, none⟩ = some (.bool (ng m)) ∧ w'.cell? ⟨w.heap.size, 1, none⟩ = some (.slice A (zl m) c) ∧ w'.cell? ⟨w.heap.size, 2, none⟩ = some (.int .i64 e)) (first | (with_reducible exact ⟨L.tl.b0.c30, L.tl.b0.c31, L.tl.b0.c32⟩) | exact ⟨L.tl.b0.c30, L.tl.b0.c31, L.tl.b0.c32⟩) (first | (go_at_call 64; (with_reducible refine (G1.out _ ?_ ).mono ?_); (· exact L.below); rintro e wh ⟨vh, rfl, id, be⟩; obtain ⟨A1, c1, rfl, _, in9⟩ := id.form; replace L := (L.step be).n in9; clear be id in9) | (go_at_call 41; (with_reducible refine (G2.out _ _ _ ?_ ?_ ).mono ?_); (· (refine isD_n (L.getN ?_); (repeat (first | (with_reducible exact List.mem_cons_self) | apply List.mem_cons_of_mem)))); (· (refine isD_n (L.getN ?_); (repeat (first | (with_reducible exact List.mem_cons_self) | apply List.mem_cons_of_mem)))); rintro e wh ⟨rfl, be⟩; replace L := L.step be; clear be))
    clear c10 c11 c12
    have c10 := L.tl.b0.c30
    have c11 := L.tl.b0.c31
    have c12 := L.tl.b0.c32
    (try go_wp2_with fail)
    refine (G4.out _ _ (isD_n (m := m) (e := e) (s := .slice A (zl m) c) (L.getN (by simp)))).mono ?_
    rintro e w1 ⟨rfl, be⟩
    clear c10 c11 c12
    replace L := L.step be
    clear be
    have c10 := L.tl.b0.c30
    have c11 := L.tl.b0.c31
    have c12 := L.tl.b0.c32
    (try go_wp2_with fail)
    refine (G3.out _ _ (isD_n (m := m) (e := e) (s := .slice A (zl m) c) (L.getN (by simp))) L.below).mono ?_
    rintro e w2 ⟨rfl, be⟩
    clear c10 c11 c12
    replace L := L.step be
    clear be
    have c10 := L.tl.b0.c30
    have c11 := L.tl.b0.c31
    have c12 := L.tl.b0.c32
    (try go_wp2_with fail)
    refine (G5.out _ _ (isD_n (m := m) (e := e) (s := .slice A (zl m) c) (L.getN (by simp))) L.below).mono ?_
    rintro e w3 ⟨v9, rfl, iz, be⟩
    clear c10 c11 c12
    obtain ⟨A2, c2, rfl, _, in9⟩ := iz.form
    replace L := (L.step be).n in9
    clear be iz in9
    have hl9 := L.b0.lt
    replace L := L.varD w3.heap.size rfl (ng M1) A2 (zl M1) c2 E1
    have c00 := L.b0.c30
    have c01 := L.b0.c31
    have c02 := L.b0.c32
    go_wp2_with fail
    clear c00 c01 c02
    obtain ⟨g1, hg1⟩ : ∃ g9, w3.heap.size = g9 := ⟨_, rfl⟩
    rw [hg1] at L hl9 ⊢
    clear hg1
    have hl_g1 := hl9
    clear hl9
    refine (G6.out _ _ (isD_n (m := M1) (e := E1) (s := .slice A2 (zl M1) c2) (L.getN (by simp))) L.below).mono ?_
    rintro e w4 ⟨v9, rfl, iz, be⟩
    obtain ⟨A3, c3, rfl, _, in9⟩ := iz.form
    replace L := (L.step be).n in9
    clear be iz in9
    have c00 := L.b0.c30
    have f00 := L.b0.fr 0
    have c01 := L.b0.c31
    have f01 := L.b0.fr 1
    have c02 := L.b0.c32
    have f02 := L.b0.fr 2
    have P := L.putD (by omega) (by simp; omega) (ng Mx) A3 (zl Mx) c3 Ex
    have p0 := P.b0.c30
    have p1 := P.b0.c31
    have p2 := P.b0.c32
    unfold put3 at p0 p1 p2 P
    go_wp2_with fail
    replace L := P
    clear P p0 p1 p2
    clear c00 f00 c01 f01 c02 f02
    refine (G7.out A3 c3 _ L.below (L.getN (by simp))).mono ?_
    rintro e w5 ⟨S, kk, hR, v9, rfl, iz, be⟩
    obtain ⟨A4, c4, rfl, _, in9⟩ := iz.form
    replace L := (L.step be).n in9
    clear be iz in9
    have hl9 := L.b0.lt
    rw [← HX.out] at hR
    have HL0 := PwL.first HH.out hR
    obtain ⟨Ms, hMs⟩ : ∃ z, mkM S (-(p : Int)) = z := ⟨_, rfl⟩
    obtain ⟨Es, hEs⟩ : ∃ z, mkE S (-(p : Int)) = z := ⟨_, rfl⟩
    rw [hMs] at L ⊢
    rw [hEs]
    have HL := Lib.hid (And.intro HL0 (And.intro hMs hEs))
    clear HL0 hMs hEs hR HX G1 G2 G3 G4 G5 G6 G7
    replace L := L.varD w5.heap.size rfl (ng Ms) A4 (zl Ms) c4 Es
    have c00 := L.b0.c30
    have c01 := L.b0.c31
    have c02 := L.b0.c32
    go_wp2_with fail
    clear c00 c01 c02
    obtain ⟨g2, hg2⟩ : ∃ g9, w5.heap.size = g9 := ⟨_, rfl⟩
    rw [hg2] at L hl9 ⊢
    clear hg2
    have hl_g2 := hl9
    clear hl9
    go_loopw [45] (fun i wr => ∃ (j : Nat) (s Ms Es : Int) (A4 : Option Addr) (c4 : Nat), i = .int .i64 (j : Int) ∧ Lq w wr [(.slice A4 (zl Ms) c4, Ms.natAbs)] [] [] [(g2, 26, #[.bool (ng Ms), .slice A4 (zl Ms) c4, .int .i64 Es]), (w.heap.size + 1, 26, #[.bool false, .slice none 0 0, .int .i64 0])] ∧ Hid (PwL m e h p j s ∧ mkM s (-(p : Int)) = Ms ∧ mkE s (-(p : Int)) = Es)) (fun i _ => 100 - (intOf i).toNat)
    case atStart => exact ⟨0, S, Ms, Es, A4, c4, by go_num, L.subx (by simp) (by simp), HL⟩
    case round =>
      clear L HL
      obtain ⟨j, s, Ms, Es, A4, c4, rfl, L, HL⟩ := hrel
      obtain ⟨hI, hM, hE⟩ := HL.out
      obtain ⟨hpb, hhb, hdgb⟩ := HP.out
      have hjh := hI.1
      have hsz := hI.size HH.out
      have hl0 := L.b0.lt
      rcases Nat.eq_or_lt_of_le hjh with rfl | hj3
      · have hlt : ¬ (j : Int) < (j : Int) := by omega
        obtain ⟨r1, r2, r3⟩ := hI.last HH.out
        clear HL hI
        replace L := L.swap
        have cel00 := L.b0.c30
        have f00 := L.b0.fr 0
        have cel01 := L.b0.c31
        have f01 := L.b0.fr 1
        have cel02 := L.b0.c32
        have f02 := L.b0.fr 2
        have cel10 := L.tl.b0.c30
        have cel11 := L.tl.b0.c31
        have cel12 := L.tl.b0.c32
        go_wp2_with fail
        clear cel00 f00 cel01 f01 cel02 f02 cel10 cel11 cel12
        subst hM hE
        have LP := L.putD (by omega) (by first | (simp; done) | (simp; omega)) (ng (mkM s (-(p : Int)))) A4 (zl (mkM s (-(p : Int)))) c4 (mkE s (-(p : Int)))
        have k0 := LP.b0.c30
        have k1 := LP.b0.c31
        have k2 := LP.b0.c32
        unfold put3 at k0 k1 k2
        exact bodyPost_ret (v := .agg #[.bool (ng (mkM s (-(p : Int)))), .slice A4 (zl (mkM s (-(p : Int)))) c4, .int .i64 (mkE s (-(p : Int)))]) (by simp [results, Tryz.results65, go_sem, k0, k1, k2]) rfl ⟨s, p, hpb, hsz.up (by omega), r1, r2, r3, _, rfl, isD_n (LP.getN (by simp)), LP.below⟩
      · have hlt : (j : Int) < (h : Int) := by omega
        have hI2 := hI.step hj3
        obtain ⟨M4, hM4⟩ : ∃ z, mkM (mkM s (-(p : Int)) * mkM s (-(p : Int))) (mkE s (-(p : Int)) + mkE s (-(p : Int))) = z := ⟨_, rfl⟩
        obtain ⟨E4, hE4⟩ : ∃ z, mkE (mkM s (-(p : Int)) * mkM s (-(p : Int))) (mkE s (-(p : Int)) + mkE s (-(p : Int))) = z := ⟨_, rfl⟩
        obtain ⟨a1, a2, a3, a4, a5⟩ := np hsz (by omega) (show p ≤ 3000 by omega)
        obtain ⟨m1, m2, m3, m4, m5, m6⟩ := np_mul hsz hsz (by omega) (by omega) (show p ≤ 1400 by omega) M4 E4 hM4 hE4
        have g8 := fun x y W h j (hW : Below w.heap.size w W) => dmul_any (mkM s (-(p : Int))) (mkE s (-(p : Int))) (mkM s (-(p : Int))) (mkE s (-(p : Int))) x y W h j (by omega) (by omega) (by omega) (by omega) (HT.out W hW)
        rw [hM4, hE4, m1, hM, hE] at g8
        have g9 := fun x W h (hW : Below w.heap.size w W) => gfloor_any M4 E4 (p : Int) x W h (by omega) (by omega) (by omega) (by omega) (HT.out W hW)
        rw [m4, m5, m6] at g9
        obtain ⟨s2, hs2⟩ : ∃ z, s * s / 2 ^ p = z := ⟨_, rfl⟩
        rw [hs2] at g9 hI2
        obtain ⟨M2, hM2⟩ : ∃ z, mkM s2 (-(p : Int)) = z := ⟨_, rfl⟩
        obtain ⟨E2, hE2⟩ : ∃ z, mkE s2 (-(p : Int)) = z := ⟨_, rfl⟩
        rw [hM2, hE2] at g9
        have G8 := Lib.hid g8
        have G9 := Lib.hid g9
        have HQ := Lib.hid (And.intro hI2 (And.intro hM2 hE2))
        have w9 : IntKind.i64.wrap ((j : Int) + 1) = (j : Int) + 1 := by rw [IntKind.wrap_i64]; omega
        clear g8 g9 a1 a2 a3 a4 a5 m1 m2 m3 m4 m5 m6 hM hE hM2 hE2 hs2 hI2 hM4 hE4 hI HL hsz
        have cel00 := L.b0.c30
        have f00 := L.b0.fr 0
        have cel01 := L.b0.c31
        have f01 := L.b0.fr 1
        have cel02 := L.b0.c32
        have f02 := L.b0.fr 2
        go_wp2_with fail
        refine (G8.out _ _ _ (isD_n (m := Ms) (e := Es) (s := .slice A4 (zl Ms) c4) (L.getN (by simp))) (isD_n (m := Ms) (e := Es) (s := .slice A4 (zl Ms) c4) (L.getN (by simp))) L.below).mono ?_
        rintro e w31 ⟨v9, rfl, iz, be⟩
        clear cel00 f00 cel01 f01 cel02 f02
        obtain ⟨A5, c5, rfl, _, in9⟩ := iz.form
        replace L := (L.step be).n in9
        clear be iz in9
        have cel00 := L.b0.c30
        have f00 := L.b0.fr 0
        have cel01 := L.b0.c31
        have f01 := L.b0.fr 1
        have cel02 := L.b0.c32
        have f02 := L.b0.fr 2
        have P := L.putD (by omega) (by simp; omega) (ng M4) A5 (zl M4) c5 E4
        have p0 := P.b0.c30
        have p1 := P.b0.c31
        have p2 := P.b0.c32
        unfold put3 at p0 p1 p2 P
        go_wp2_with fail
        replace L := P
        clear P p0 p1 p2
        clear cel00 f00 cel01 f01 cel02 f02
        refine (G9.out _ _ (isD_n (m := M4) (e := E4) (s := .slice A5 (zl M4) c5) (L.getN (by simp))) L.below).mono ?_
        rintro e w32 ⟨v9, rfl, iz, be⟩
        obtain ⟨A6, c6, rfl, _, in9⟩ := iz.form
        replace L := (L.step be).n in9
        clear be iz in9
        have cel00 := L.b0.c30
        have f00 := L.b0.fr 0
        have cel01 := L.b0.c31
        have f01 := L.b0.fr 1
        have cel02 := L.b0.c32
        have f02 := L.b0.fr 2
        have P := L.putD (by omega) (by simp; omega) (ng M2) A6 (zl M2) c6 E2
        unfold put3 at P
        go_wp2_with fail
        go_roundw
        case rel => exact ⟨j + 1, s2, M2, E2, A6, c6, by go_num, P.subx (by simp) (by simp), HQ⟩
        case measure => simp [intOf]; omega

/-- What Exp returns: an interval from a to b in units of 2^-k. -/
def RetEp (w : World) (k : Nat) (m e n f : Int) (en : Ending) (w' : World) : Prop := ∃ a b : Int, (0 ≤ a ∧ AbP a (k + 302) ∧ LoE (dq a (-(k : Int))) (dq m e) ∧ UpE (dq m e) (dq a (-(k : Int)) + 2 * dq 1 (-(k : Int)))) ∧
  (AbP b (k + 302) ∧ LoE (dq b (-(k : Int)) - 2 * dq 1 (-(k : Int))) (dq n f) ∧ UpE (dq n f) (dq b (-(k : Int)))) ∧ RetIE w (mkM a (-(k : Int))) (mkE a (-(k : Int))) (mkM b (-(k : Int))) (mkE b (-(k : Int))) 0 en w'
theorem twoM (k : Nat) : 2 * dq 1 (-((k : Int) + 20)) ≤ dq 1 (-(k : Int)) := by
  have h := dq_anti (a := -((k : Int) + 20)) (b := -(k : Int) + -1) (by omega)
  rw [dq_add1] at h
  have v : dq 1 (-1) = 1 / 2 := by decide +kernel
  rw [v] at h
  generalize dq 1 (-((k : Int) + 20)) = M at *
  generalize dq 1 (-(k : Int)) = u at *
  grind
theorem up200 {x : Rat} (h : x ≤ 200) : UpE x (dq 1 300) := by
  have h2 : x ≤ ((200 : Int) : Rat) := h
  have := dg_up h2
  exact this
theorem unit_up (k j : Nat) : dq 1 (j : Int) = dq (2 ^ (k + j)) (-(k : Int)) := by
  refine dq_eq (F := -(k : Int)) ?_ (by omega) (by omega)
  rw [show ((j : Int) - -(k : Int)).toNat = k + j by omega, show (-(k : Int) - -(k : Int)).toNat = 0 by omega]
  simp
theorem ep_lo {k : Nat} {q x Q : Rat} (h1 : LoE (q - dq 1 (-((k : Int) + 20))) x) (h2 : UpE x (q + dq 1 (-((k : Int) + 20)))) (hx : x ≤ 200) (hQ : (Q = 0 ∧ q - dq 1 (-((k : Int) + 20)) < 0) ∨ (Q = q - dq 1 (-((k : Int) + 20)) ∧ 0 ≤ Q)) :
    0 ≤ cutQ Q (k : Int) ∧ AbP (cutQ Q (k : Int)) (k + 302) ∧ LoE (dq (cutQ Q (k : Int)) (-(k : Int))) x ∧ UpE x (dq (cutQ Q (k : Int)) (-(k : Int)) + 2 * dq 1 (-(k : Int))) := by
  have hM := dq_pos (-((k : Int) + 20))
  have h2M := twoM k
  have c1 := cut_lo Q (k : Int)
  have c2 := cut_hi Q (k : Int)
  have hB := up200 hx
  have l0 : LoE Q x := by
    rcases hQ with ⟨e, _⟩ | ⟨e, _⟩
    · rw [e]; exact LoE.zero x
    · rw [e]; exact h1
  have hQ0 : 0 ≤ Q := by
    rcases hQ with ⟨e, _⟩ | ⟨_, e⟩
    · rw [e]; exact Rat.le_refl
    · exact e
  have u0 : UpE x (Q + 2 * dq 1 (-((k : Int) + 20))) := by
    refine h2.up ?_
    generalize dq 1 (-((k : Int) + 20)) = M at *
    clear h1 h2 hB c1 c2 l0
    rcases hQ with ⟨e, e2⟩ | ⟨e, e2⟩ <;> grind
  have hl := l0.down c1
  have a0 : 0 ≤ cutQ Q (k : Int) := by
    unfold cutQ
    refine Rat.le_floor_iff.2 ?_
    exact Rat.mul_nonneg hQ0 (Rat.le_of_lt (dq_pos _))
  refine ⟨a0, ?_, hl, u0.up ?_⟩
  · have h3 := hl.le hB
    rw [show (300 : Int) = ((300 : Nat) : Int) from rfl, unit_up k 300] at h3
    have h4 := (dq_le_iff _ _ _).1 h3
    have eP : (((2 : Nat) ^ (k + 300) : Nat) : Int) = 2 ^ (k + 300) := by simp
    rw [← eP] at h4
    have h5 := Nat.pow_le_pow_right (n := 2) (by omega) (show k + 300 ≤ k + 302 by omega)
    unfold AbP
    omega
  · generalize dq 1 (-((k : Int) + 20)) = M at *
    generalize dq 1 (-(k : Int)) = u at *
    generalize dq (cutQ Q (k : Int)) (-(k : Int)) = A at *
    clear h1 h2 hB c1 l0 hl u0 hQ
    grind
theorem ep_hi {k : Nat} {q x : Rat} (h1 : LoE (q - dq 1 (-((k : Int) + 20))) x) (h2 : UpE x (q + dq 1 (-((k : Int) + 20)))) (hx : x ≤ 200) :
    AbP (-(cutQ (-(q + dq 1 (-((k : Int) + 20)))) (k : Int))) (k + 302) ∧ LoE (dq (-(cutQ (-(q + dq 1 (-((k : Int) + 20)))) (k : Int))) (-(k : Int)) - 2 * dq 1 (-(k : Int))) x ∧ UpE x (dq (-(cutQ (-(q + dq 1 (-((k : Int) + 20)))) (k : Int))) (-(k : Int))) := by
  have hM := dq_pos (-((k : Int) + 20))
  have h2M := twoM k
  have c1 := cut_lo (-(q + dq 1 (-((k : Int) + 20)))) (k : Int)
  have c2 := cut_hi (-(q + dq 1 (-((k : Int) + 20)))) (k : Int)
  have hB := up200 hx
  obtain ⟨b, hb⟩ : ∃ b, -(cutQ (-(q + dq 1 (-((k : Int) + 20)))) (k : Int)) = b := ⟨_, rfl⟩
  rw [show cutQ (-(q + dq 1 (-((k : Int) + 20)))) (k : Int) = -b by omega, dq_neg] at c1 c2
  rw [hb]
  have hu : UpE x (dq b (-(k : Int))) := by
    refine h2.up ?_
    generalize dq 1 (-((k : Int) + 20)) = M at *
    generalize dq b (-(k : Int)) = B at *
    clear h1 h2 hB c2
    grind
  have hl : LoE (dq b (-(k : Int)) - 2 * dq 1 (-(k : Int))) x := by
    refine h1.down ?_
    generalize dq 1 (-((k : Int) + 20)) = M at *
    generalize dq b (-(k : Int)) = B at *
    generalize dq 1 (-(k : Int)) = u at *
    clear h1 h2 hB c1 hu
    grind
  refine ⟨?_, hl, hu⟩
  have h3 := hl.le hB
  rw [show (300 : Int) = ((300 : Nat) : Int) from rfl, unit_up k 300] at h3
  have e2 : dq b (-(k : Int)) - 2 * dq 1 (-(k : Int)) = dq (b - 2) (-(k : Int)) := by
    rw [dq_scale b, dq_scale (b - 2), Rat.intCast_sub, show ((2 : Int) : Rat) = 2 from rfl]
    generalize dq 1 (-(k : Int)) = u at *
    grind
  rw [e2] at h3
  have h4 := (dq_le_iff _ _ _).1 h3
  have eP : (((2 : Nat) ^ (k + 300) : Nat) : Int) = 2 ^ (k + 300) := by simp
  rw [← eP] at h4
  have h5 : 2 ^ (k + 302) = 2 ^ (k + 300) * 4 := by rw [show k + 302 = k + 300 + 2 by omega, Nat.pow_add]
  have h6 := Nat.pow_pos (n := k + 300) (show 0 < 2 by omega)
  have h7 := hu.pos
  have h8 : 0 < b := by
    refine Int.not_le.1 fun hle => ?_
    have := (dq_le_iff b 0 (-(k : Int))).2 hle
    rw [dq_zero] at this
    exact absurd h7 (Rat.not_lt.2 this)
  unfold AbP
  omega
/-- A number in units of 2^-p, and 2^-j more or less. -/
theorem ep_sum {s : Int} {p j : Nat} (t : Int) (h : AbP s 1100) (hp : p ≤ 700) (hj : j ≤ 300) (ht : t = 1 ∨ t = -1) (M E : Int)
    (hM : mkM (addS (mkM s (-(p : Int))) (mkE s (-(p : Int))) (t * mkM 1 (-(j : Int))) (mkE 1 (-(j : Int)))) (min (mkE s (-(p : Int))) (mkE 1 (-(j : Int)))) = M)
    (hE : mkE (addS (mkM s (-(p : Int))) (mkE s (-(p : Int))) (t * mkM 1 (-(j : Int))) (mkE 1 (-(j : Int)))) (min (mkE s (-(p : Int))) (mkE 1 (-(j : Int)))) = E) :
    mkR (addS (mkM s (-(p : Int))) (mkE s (-(p : Int))) (t * mkM 1 (-(j : Int))) (mkE 1 (-(j : Int)))) (min (mkE s (-(p : Int))) (mkE 1 (-(j : Int)))) = 0 ∧ dq M E = dq s (-(p : Int)) + (t : Rat) * dq 1 (-(j : Int)) ∧ zl M ≤ 400 ∧ (-15000 ≤ E ∧ E ≤ 15000) ∧ Dv M E := by
  obtain ⟨a1, a2, a3, a4, a5⟩ := np h (by omega) (show p ≤ 3000 by omega)
  obtain ⟨b1, b2, b3, b4, b5⟩ := np (T := 1) (j := 0) (by unfold AbP; decide) (by omega) (show j ≤ 3000 by omega)
  have hz1 : zl (t * mkM 1 (-(j : Int))) = zl (mkM 1 (-(j : Int))) := by
    rcases ht with rfl | rfl
    · rw [Int.one_mul]
    · rw [Int.neg_mul, Int.one_mul]; exact zl_neg _
  have hz := zl_addS (mkM s (-(p : Int))) (mkE s (-(p : Int))) (t * mkM 1 (-(j : Int))) (mkE 1 (-(j : Int))) 3000 (by omega) (by omega)
  rw [hz1] at hz
  have hr : mkR (addS (mkM s (-(p : Int))) (mkE s (-(p : Int))) (t * mkM 1 (-(j : Int))) (mkE 1 (-(j : Int)))) (min (mkE s (-(p : Int))) (mkE 1 (-(j : Int)))) = 0 := mk_fits9 (by omega) (by omega) (by omega)
  have hd := dq_mk hr
  have hv := mk_ok hr
  have hz2 := zl_mk (addS (mkM s (-(p : Int))) (mkE s (-(p : Int))) (t * mkM 1 (-(j : Int))) (mkE 1 (-(j : Int)))) (min (mkE s (-(p : Int))) (mkE 1 (-(j : Int))))
  have he := mkE_at hr (k := 400) (by omega)
  rw [hM] at hd hv hz2
  rw [hE] at hd hv he
  refine ⟨hr, ?_, by omega, by omega, hv⟩
  rw [hd, dq_add, a5]
  have e : dq (t * mkM 1 (-(j : Int))) (mkE 1 (-(j : Int))) = (t : Rat) * dq 1 (-(j : Int)) := by
    rw [dq_scale, Rat.intCast_mul, Rat.mul_assoc, ← dq_scale, b5]
  rw [e]


/-- An interval whose ends, on the grid of j, enclose the exponential of x. -/
def RetEx (w : World) (x : Rat) (j : Nat) (en : Ending) (w' : World) : Prop := ∃ a b, RetI6 w (mkM a (-(j : Int))) (mkE a (-(j : Int))) (mkM b (-(j : Int))) (mkE b (-(j : Int))) en w' ∧ LoE (dq a (-(j : Int))) x ∧ UpE x (dq b (-(j : Int))) ∧ AbP a 60000 ∧ AbP b 60000
theorem RetEx.mk {w w' : World} {x : Rat} {j : Nat} {en : Ending} {M E N F : Int} (h : ∃ a b, mkM a (-(j : Int)) = M ∧ mkE a (-(j : Int)) = E ∧ mkM b (-(j : Int)) = N ∧ mkE b (-(j : Int)) = F ∧ LoE (dq a (-(j : Int))) x ∧ UpE x (dq b (-(j : Int))) ∧ AbP a 60000 ∧ AbP b 60000) (hr : RetI6 w M E N F en w') : RetEx w x j en w' := by
  obtain ⟨a, b, rfl, rfl, rfl, rfl, h⟩ := h
  exact ⟨a, b, hr, h⟩

/-- What is known of a result: its lower and upper end, in units of 2^-k. -/
def EpA (k : Nat) (a : Int) (x : Rat) : Prop := 0 ≤ a ∧ AbP a (k + 302) ∧ LoE (dq a (-(k : Int))) x ∧ UpE x (dq a (-(k : Int)) + 2 * dq 1 (-(k : Int)))
def EpB (k : Nat) (b : Int) (x : Rat) : Prop := AbP b (k + 302) ∧ LoE (dq b (-(k : Int)) - 2 * dq 1 (-(k : Int))) x ∧ UpE x (dq b (-(k : Int)))
/-- Of an enclosure of the reference. -/
def ExB (j : Nat) (a b : Int) (x : Rat) : Prop := LoE (dq a (-(j : Int))) x ∧ UpE x (dq b (-(j : Int))) ∧ AbP a 60000 ∧ AbP b 60000
/-- What Exp of a valid interval returns, as the laws use it. -/
theorem RetEp.ab {w : World} {k : Nat} {m e n f : Int} {en : Ending} {w' : World} (h : RetEp w k m e n f en w') : ∃ a b : Int, EpA k a (dq m e) ∧ EpB k b (dq n f) ∧ RetIE w (mkM a (-(k : Int))) (mkE a (-(k : Int))) (mkM b (-(k : Int))) (mkE b (-(k : Int))) 0 en w' := by
  obtain ⟨a, b, h1, h2, h3⟩ := h
  exact ⟨a, b, h1, h2, h3⟩
theorem RetEx.ab {w : World} {x : Rat} {j : Nat} {en : Ending} {w' : World} (h : RetEx w x j en w') : ∃ a b : Int, ExB j a b x ∧ RetI6 w (mkM a (-(j : Int))) (mkE a (-(j : Int))) (mkM b (-(j : Int))) (mkE b (-(j : Int))) en w' := by
  obtain ⟨a, b, h1, h2⟩ := h
  exact ⟨a, b, h2, h1⟩
theorem small14 {m e n f : Int} (lm : zl m ≤ 60) (ln : zl n ≤ 60) (he : -8000 ≤ e ∧ e ≤ 3000) (hf : -8000 ≤ f ∧ f ≤ 3000) (hle : dcm m e n f ≤ 0) (tm : topZ m e ≤ 2048) (tn : topZ n f ≤ 2048) : smallB m e n f = true := by
  have p8 : permB 8192 = true := by decide
  unfold smallB onB
  rw [p8, decide_eq_true hle, decide_eq_true tm, decide_eq_true tn, decide_eq_true (show -8192 ≤ e by omega), decide_eq_true (show -8192 ≤ f by omega)]
  simp


theorem top_ub {m e : Int} {z : Nat} (hz : zl m ≤ z) (he : e ≤ 1000) (hb : 32 * (z : Int) + 1000 ≤ 2048) : topZ m e ≤ 2048 := by
  have h := blen_le_len m.natAbs
  have e1 : zl m = len m.natAbs := rfl
  unfold topZ
  split <;> omega
theorem small15 {m e n f : Int} (zm : zl m ≤ 32) (zn : zl n ≤ 32) (he : -8000 ≤ e ∧ e ≤ 1000) (hf : -8000 ≤ f ∧ f ≤ 1000) (hle : dcm m e n f ≤ 0) : smallB m e n f = true :=
  small14 (by omega) (by omega) (by omega) (by omega) hle (top_ub zm (by omega) (by omega)) (top_ub zn (by omega) (by omega))
theorem ArgL.small {m e n f : Int} (h : ArgL m e n f) : smallB m e n f = true := by
  obtain ⟨_, _, _, h4, h5, h6, h7, h8⟩ := h
  exact small15 (by omega) (by omega) (by omega) (by omega) ((dcm_le _ _ _ _).2 h4)
theorem ArgL.sp {m e n f : Int} (h : ArgL m e n f) : (spK m e).natAbs ≤ 3000 ∧ (spK n f).natAbs ≤ 3000 := by
  obtain ⟨_, _, _, h4, h5, h6, h7, h8⟩ := h
  obtain ⟨_, _, a, b⟩ := sp_rng (m := m) (e := e) h5
  obtain ⟨_, _, c, d⟩ := sp_rng (m := n) (e := f) h6
  omega


/-- An argument of a law: valid, not long, and less than 2^B. -/
structure ArgX (B m e n f : Int) : Prop where
  vm : Dv m e
  vn : Dv n f
  le : dq m e ≤ dq n f
  zm : zl m ≤ 60
  zn : zl n ≤ 60
  em : -3000 ≤ e ∧ e ≤ 3000
  en : -3000 ≤ f ∧ f ≤ 3000
  lo : -dq 1 B ≤ dq m e
  hi : dq n f ≤ dq 1 B
theorem ArgX.of {j : Nat} {m e n f B : Int} (h : ArgR j m e n f) (hj : j ≤ 13) (t1 : topZ m e ≤ B) (t2 : topZ n f ≤ B) : ArgX B m e n f := by
  obtain ⟨s1, s2⟩ := h.small (by omega)
  obtain ⟨a1, _⟩ := top_bd m e
  obtain ⟨_, b2⟩ := top_bd n f
  exact ⟨h.vm, h.vn, h.le, Nat.le_trans h.zm (by omega), Nat.le_trans h.zn (by omega), by omega, by omega, Rat.le_trans (Rat.neg_le_neg (dq_anti t1)) a1, Rat.le_trans b2 (dq_anti t2)⟩
theorem ArgX.all {B m e n f : Int} (h : ArgX B m e n f) (hB : B ≤ 8) : smallB m e n f = true ∧ topZ m e ≤ 11 ∧ topZ n f ≤ 11 ∧ -256 ≤ dq m e ∧ dq n f ≤ 256 := by
  have v8 : dq 1 8 = 256 := by decide +kernel
  have v11 : dq 1 11 = 2048 := by decide +kernel
  have hb := dq_anti hB
  rw [v8] at hb
  have l1 : -256 ≤ dq m e := Rat.le_trans (Rat.neg_le_neg hb) h.lo
  have l2 : dq n f ≤ 256 := Rat.le_trans h.hi hb
  have l3 := h.le
  have tm : topZ m e ≤ 11 := by
    refine (top_iff (by omega)).2 ?_
    rw [v11]
    generalize dq m e = p at *
    generalize dq n f = q at *
    clear h hb
    constructor <;> grind
  have tn : topZ n f ≤ 11 := by
    refine (top_iff (by omega)).2 ?_
    rw [v11]
    generalize dq m e = p at *
    generalize dq n f = q at *
    clear h hb
    constructor <;> grind
  have em := h.em
  have en := h.en
  exact ⟨small14 h.zm h.zn (by omega) (by omega) ((dcm_le _ _ _ _).2 h.le) (by omega) (by omega), tm, tn, l1, l2⟩
theorem unit_le (k : Nat) : dq 1 (-(k : Int)) ≤ 1 := by
  have := dq_anti (a := -(k : Int)) (b := 0) (by omega)
  have v0 : dq 1 0 = 1 := by decide +kernel
  rwa [v0] at this
theorem icm_meet15 {m e n f m2 e2 n2 f2 : Int} (h1 : dq m2 e2 ≤ dq n f) (h2 : dq m e ≤ dq n2 f2) : icm m e n f m2 e2 n2 f2 = 0 := by
  have h3 : dcm m2 e2 n f ≤ 0 := (dcm_le _ _ _ _).2 h1
  have h4 : dcm m e n2 f2 ≤ 0 := (dcm_le _ _ _ _).2 h2
  have h5 := dcm_swap m2 e2 n f
  unfold icm
  (repeat' split) <;> omega
/-- Upper bounds of a logarithm. -/
theorem lo_180 {x : Rat} (h : x ≤ dq 1 256) : LoE x 180 := by
  have h1 := ln_lo.rp (by decide) 256
  have e : rp 2 256 = dq 1 256 := by
    have := rp_two 1 256
    rw [Int.one_mul] at this
    exact this
  rw [e] at h1
  refine (h1.mono (y := 180) ?_ (Rat.le_of_lt (dq_pos 256))).down h
  decide +kernel
theorem EnA.ab {k : Nat} {a b : Int} {x y : Rat} (ha : EnA k a x) (hb : EnB k b y) (hxy : x ≤ y) : dq a (-(k : Int)) ≤ dq b (-(k : Int)) := ln_mono ha.1 hb.2 hxy
theorem EnB.le200 {k : Nat} {b : Int} {y : Rat} (hb : EnB k b y) (hy : y ≤ dq 1 256) : dq b (-(k : Int)) ≤ 200 := by
  have h1 := ln_le hb.1 (lo_180 hy)
  have h2 := unit_le k
  generalize dq b (-(k : Int)) = p at *
  generalize dq 1 (-(k : Int)) = u at *
  clear hb
  grind
theorem ArgL.hi256 {m e n f : Int} (h : ArgL m e n f) : dq n f ≤ dq 1 256 := by
  obtain ⟨_, b⟩ := top_bd n f
  refine Rat.le_trans b (dq_anti ?_)
  have h1 := blen_le_len n.natAbs
  have e1 : zl n = len n.natAbs := rfl
  have h2 := h.zn
  have h3 := h.en
  unfold topZ
  split <;> omega
/-- Numbers on a grid, from 0 to 80: what the laws ask of them. -/
theorem gr15 {T : Int} {k j : Nat} (h : AbP T j) (hj : j ≤ 500) (hk : k ≤ 200) : zl (mkM T (-(k : Int))) ≤ 16 ∧ (-200 ≤ mkE T (-(k : Int)) ∧ mkE T (-(k : Int)) ≤ 532) ∧ Dv (mkM T (-(k : Int))) (mkE T (-(k : Int))) ∧ dq (mkM T (-(k : Int))) (mkE T (-(k : Int))) = dq T (-(k : Int)) := by
  obtain ⟨a1, a2, a3, a4, a5⟩ := nx (x := -(k : Int)) h (by omega) (by omega)
  exact ⟨by omega, by omega, a4, a5⟩
theorem sp15 {m e : Int} (hz : zl m ≤ 16) (he : -800 ≤ e ∧ e ≤ 600) : (spK m e).natAbs ≤ 3000 := by
  obtain ⟨_, _, a, b⟩ := sp_rng (m := m) (e := e) hz
  omega


set_option maxHeartbeats 16000000 in
theorem xexp_yes (m e n f : Int) (k : Nat) (vx : Value) (w : World) (hx : IsI w vx m e n f) (lm : zl m ≤ 100) (ln : zl n ≤ 100) (he : -10000 ≤ e ∧ e ≤ 3000) (hf : -10000 ≤ f ∧ f ≤ 3000) (hv : Dv m e) (hv2 : Dv n f) (hsm : smallB m e n f = true) (hk : k ≤ 220) (hl : dq n f ≤ 200) (hT : Tab w) :
    Calls Tryz.prog 19 #[vx, .int .i64 (k : Int)] w (RetEp w k m e n f) := by
  obtain ⟨A, c, B, d, rfl, hn1, hn2⟩ := hx.form
  have L0 := ((Lq.mk0 w).n hn2).n hn1
  have HP0 := fun W => xperm_any (k : Int) 0 W
  have hok : okX (k : Int) 0 = true := by
    unfold okX
    rw [decide_eq_true (show (0 : Int) ≤ (k : Int) by omega), decide_eq_true (show (k : Int) ≤ 4096 by omega)]
    rfl
  rw [hok] at HP0
  have HP := Lib.hid HP0
  have HT := Lib.hid (fun W (hW : Below w.heap.size w W) => hT.mono hW)
  have g1 := fun x W h => asmall_any m e n f x W h (by omega) (by omega) (by omega) (by omega) hv hv2
  rw [hsm] at g1
  have hb10 : AbP 1000 12 := by unfold AbP; decide
  obtain ⟨z1, z2, z3, z4, z5, z6⟩ := nf hb10 (by omega)
  rw [dq_int] at z6
  have g2 := fun W (hW : Below w.heap.size w W) => dof_any 1000 W (by omega) (by omega) (hT.mono hW)
  have g3 := fun x y W h j => dcmp_any n f (mkM 1000 0) (mkE 1000 0) x y W h j (by omega) (by omega) (by omega) (by omega)
  have hle := dcm_le n f (mkM 1000 0) (mkE 1000 0)
  rw [z6] at hle
  rw [show cmpI (n * 2 ^ (f - min f (mkE 1000 0)).toNat) (mkM 1000 0 * 2 ^ (mkE 1000 0 - min f (mkE 1000 0)).toNat) = dcm n f (mkM 1000 0) (mkE 1000 0) from rfl] at g3
  generalize dcm n f (mkM 1000 0) (mkE 1000 0) = cm at *
  generalize mkM 1000 0 = Mb at *
  generalize mkE 1000 0 = Eb at *
  have G1 := Lib.hid g1
  have G2 := Lib.hid g2
  have G3 := Lib.hid g3
  clear g1 g2 g3 z1 z2 z3 z4 z5 z6 hb10 hx HP0 hok
  have hcm : ¬ 0 < cm := by
    refine Int.not_lt.2 (hle.2 (Rat.le_trans hl ?_))
    exact_mod_cast (by omega : (200 : Int) ≤ 1000)
  have d1 : decide (0 < cm) = false := decide_eq_false hcm
  have hmn : dcm m e n f ≤ 0 := by
    unfold smallB at hsm
    rw [Bool.and_eq_true] at hsm
    exact of_decide_eq_true hsm.1
  have hlm : dq m e ≤ 200 := Rat.le_trans ((dcm_le m e n f).1 hmn) hl
  have g4 := fun x W h (hW : Below w.heap.size w W) => xpow_any m e k x W h lm he hv hlm hk (hT.mono hW)
  have g5 := fun x W h (hW : Below w.heap.size w W) => xpow_any n f k x W h ln hf hv2 hl hk (hT.mono hW)
  have g6 := fun x y W h j => dcmp_any m e n f x y W h j (by omega) (by omega) (by omega) (by omega)
  rw [show cmpI (m * 2 ^ (e - min e f).toNat) (n * 2 ^ (f - min e f).toNat) = dcm m e n f from rfl] at g6
  obtain ⟨j, hj⟩ : ∃ j : Nat, k + 20 = j := ⟨_, rfl⟩
  have hji : (j : Int) = (k : Int) + 20 := by omega
  have hpj : permB (j : Int) = true := by
    unfold permB
    rw [decide_eq_true (show (-2048 : Int) ≤ (j : Int) by omega), decide_eq_true (show (j : Int) ≤ 8192 by omega)]
    rfl
  have hpk : permB (k : Int) = true := by
    unfold permB
    rw [decide_eq_true (show (-2048 : Int) ≤ (k : Int) by omega), decide_eq_true (show (k : Int) ≤ 8192 by omega)]
    rfl
  have g7 := fun W (hW : Below w.heap.size w W) => gunit_any (j : Int) W (by omega) (by omega) (hT.mono hW)
  obtain ⟨y1, y2, y3⟩ := g_yes hpj 1
  obtain ⟨u1, u2, u3, u4, u5⟩ := np (T := 1) (j := 0) (p := j) (by unfold AbP; decide) (by omega) (by omega)
  rw [y1, y2, y3, u1] at g7
  have w1 : IntKind.i64.wrap ((k : Int) + 20) = (j : Int) := by rw [IntKind.wrap_i64]; omega
  have hjb : j ≤ 240 := by omega
  have HU := Lib.hid (And.intro u2 u3)
  have HPK := Lib.hid hpk
  have HJ := Lib.hid (And.intro hji (And.intro hjb hk))
  have HLB := Lib.hid (And.intro hlm hl)
  obtain ⟨Mu, hMu⟩ : ∃ z, mkM 1 (-(j : Int)) = z := ⟨_, rfl⟩
  obtain ⟨Eu, hEu⟩ : ∃ z, mkE 1 (-(j : Int)) = z := ⟨_, rfl⟩
  rw [hMu, hEu] at g7
  have HMU := Lib.hid (And.intro hMu hEu)
  have hcase : (dcm m e n f < 0) ∨ (m = n ∧ e = f ∧ dcm m e n f = 0) := by
    rcases Int.lt_or_le (dcm m e n f) 0 with q | q
    · exact Or.inl q
    · have q0 : dcm m e n f = 0 := by omega
      obtain ⟨a, b⟩ := (dcm_eq hv hv2).1 q0
      exact Or.inr ⟨a, b, q0⟩
  generalize dcm m e n f = cn at *
  have G4 := Lib.hid g4
  have G5 := Lib.hid g5
  have G6 := Lib.hid g6
  have G7 := Lib.hid g7
  clear g4 g5 g6 g7 hle hl hv hv2 lm ln he hf hsm y1 y2 y3 u1 u2 u3 u4 u5 hpj hpk hMu hEu hmn hlm hj hji hjb hk hT hcm
  rcases hcase with hlt | ⟨rfl, rfl, hlt⟩
  · have d2 : decide (cn < 0) = true := decide_eq_true hlt
    go_enter Tryz.func19, Tryz.ntmps19
    have L := ((L0.varI (w.heap.size) (by simp) (ng m) A (zl m) c e (ng n) B (zl n) d f).varI (w.heap.size + 1) (by simp) false none 0 0 0 false none 0 0 0)
    have c00 := L.b0.c60
    have f00 := L.b0.fr 0
    have c01 := L.b0.c61
    have f01 := L.b0.fr 1
    have c02 := L.b0.c62
    have f02 := L.b0.fr 2
    have c03 := L.b0.c63
    have f03 := L.b0.fr 3
    have c04 := L.b0.c64
    have f04 := L.b0.fr 4
    have c05 := L.b0.c65
    have f05 := L.b0.fr 5
    (try go_wp2_with fail)
    refine (HP.out _).mono ?_
    rintro e9 w' ⟨rfl, rfl⟩
    (try go_wp2_with fail)
    replace L := L.drew
    clear c00 f00 c01 f01 c02 f02 c03 f03 c04 f04 c05 f05
    have c10 := L.tl.b0.c60
    have c11 := L.tl.b0.c61
    have c12 := L.tl.b0.c62
    have c13 := L.tl.b0.c63
    have c14 := L.tl.b0.c64
    have c15 := L.tl.b0.c65
    go_region_held3 (fun w' => w'.cell? ⟨w.heap.size, 0, none⟩ = some (.bool (ng m)) ∧ w'.cell? ⟨w.heap.size, 1, none⟩ = some (.slice A (zl m) c) ∧ w'.cell? ⟨w.heap.size, 2, none⟩ = some (.int .i64 e) ∧ w'.cell? ⟨w.heap.size, 3, none⟩ = some (.bool (ng n)) ∧ w'.cell? ⟨w.heap.size, 4, none⟩ = some (.slice B (zl n) d) ∧ w'.cell? ⟨w.heap.size, 5, none⟩ = some (.int .i64 f)) (first | (with_reducible exact ⟨L.tl.b0.c60, L.tl.b0.c61, L.tl.b0.c62, L.tl.b0.c63, L.tl.b0.c64, L.tl.b0.c65⟩) | exact ⟨L.tl.b0.c60, L.tl.b0.c61, L.tl.b0.c62, L.tl.b0.c63, L.tl.b0.c64, L.tl.b0.c65⟩) (first | (go_at_call 39; (with_reducible refine (G1.out _ _ ?_ ).mono ?_); (· (refine isI_n (L.getN ?_) (L.getN ?_); all_goals (repeat (first | (with_reducible exact List.mem_cons_self) | apply List.mem_cons_of_mem)))); rintro e wh ⟨rfl, be⟩; replace L := L.step be; clear be) | (go_at_call 64; (with_reducible refine (G2.out _ ?_ ).mono ?_); (· exact L.below); rintro e wh ⟨vh, rfl, id, be⟩; obtain ⟨A1, c1, rfl, _, in9⟩ := id.form; replace L := (L.step be).n in9; clear be id in9) | (go_at_call 41; (with_reducible refine (G3.out _ _ _ ?_ ?_ ).mono ?_); (· (refine isD_n (L.getN ?_); (repeat (first | (with_reducible exact List.mem_cons_self) | apply List.mem_cons_of_mem)))); (· (refine isD_n (L.getN ?_); (repeat (first | (with_reducible exact List.mem_cons_self) | apply List.mem_cons_of_mem)))); rintro e wh ⟨rfl, be⟩; replace L := L.step be; clear be))
    clear c10 c11 c12 c13 c14 c15
    have c10 := L.tl.b0.c60
    have c11 := L.tl.b0.c61
    have c12 := L.tl.b0.c62
    have c13 := L.tl.b0.c63
    have c14 := L.tl.b0.c64
    have c15 := L.tl.b0.c65
    (try go_wp2_with fail)
    refine (G4.out _ _ (isD_n (m := m) (e := e) (s := .slice A (zl m) c) (L.getN (by simp))) L.below).mono ?_
    rintro e w1 ⟨s1, p1, hp1, hs1, hn19, hl1, hu1, v9, rfl, iz, be⟩
    clear c10 c11 c12 c13 c14 c15
    obtain ⟨A2, c2, rfl, _, in9⟩ := iz.form
    replace L := (L.step be).n in9
    clear be iz in9
    have hl9 := L.b0.lt
    obtain ⟨M1, hM1⟩ : ∃ z, mkM s1 (-(p1 : Int)) = z := ⟨_, rfl⟩
    obtain ⟨E1, hE1⟩ : ∃ z, mkE s1 (-(p1 : Int)) = z := ⟨_, rfl⟩
    rw [hM1] at L ⊢
    rw [hE1]
    have HW1 := Lib.hid (And.intro hp1 (And.intro hs1 (And.intro hl1 (And.intro hu1 (And.intro hM1 hE1)))))
    clear hp1 hs1 hn19 hl1 hu1 hM1 hE1
    replace L := L.varD w1.heap.size rfl (ng M1) A2 (zl M1) c2 E1
    have c00 := L.b0.c30
    have c01 := L.b0.c31
    have c02 := L.b0.c32
    replace L := L.varD (w1.heap.size + 1) (by simp) (ng M1) A2 (zl M1) c2 E1
    have d00 := L.tl.tl.tl.b0.c60
    have d01 := L.tl.tl.tl.b0.c61
    have d02 := L.tl.tl.tl.b0.c62
    have d03 := L.tl.tl.tl.b0.c63
    have d04 := L.tl.tl.tl.b0.c64
    have d05 := L.tl.tl.tl.b0.c65
    (try go_wp2_with fail)
    clear c00 c01 c02 d00 d01 d02 d03 d04 d05
    obtain ⟨g1, hg1⟩ : ∃ g9, w1.heap.size = g9 := ⟨_, rfl⟩
    rw [hg1] at L hl9 ⊢
    clear hg1
    have hl_g1 := hl9
    clear hl9
    refine (G6.out _ _ _ (isD_n (m := m) (e := e) (s := .slice A (zl m) c) (L.getN (by simp))) (isD_n (m := n) (e := f) (s := .slice B (zl n) d) (L.getN (by simp)))).mono ?_
    rintro e w2 ⟨rfl, be⟩
    replace L := L.step be
    clear be
    have c30 := L.tl.tl.tl.b0.c60
    have c31 := L.tl.tl.tl.b0.c61
    have c32 := L.tl.tl.tl.b0.c62
    have c33 := L.tl.tl.tl.b0.c63
    have c34 := L.tl.tl.tl.b0.c64
    have c35 := L.tl.tl.tl.b0.c65
    (try go_wp2_with fail)
    refine (G5.out _ _ (isD_n (m := n) (e := f) (s := .slice B (zl n) d) (L.getN (by simp))) L.below).mono ?_
    rintro e w3 ⟨s2, p2, hp2, hs2, hn29, hl2, hu2, v9, rfl, iz, be⟩
    clear c30 c31 c32 c33 c34 c35
    obtain ⟨A3, c3, rfl, _, in9⟩ := iz.form
    replace L := (L.step be).n in9
    clear be iz in9
    obtain ⟨M2, hM2⟩ : ∃ z, mkM s2 (-(p2 : Int)) = z := ⟨_, rfl⟩
    obtain ⟨E2, hE2⟩ : ∃ z, mkE s2 (-(p2 : Int)) = z := ⟨_, rfl⟩
    rw [hM2] at L ⊢
    rw [hE2]
    have HW2 := Lib.hid (And.intro hp2 (And.intro hs2 (And.intro hl2 (And.intro hu2 (And.intro hM2 hE2)))))
    clear hp2 hs2 hn29 hl2 hu2 hM2 hE2
    have c00 := L.b0.c30
    have f00 := L.b0.fr 0
    have c01 := L.b0.c31
    have f01 := L.b0.fr 1
    have c02 := L.b0.c32
    have f02 := L.b0.fr 2
    have P := L.putD (by omega) (by simp; omega) (ng M2) A3 (zl M2) c3 E2
    unfold put3 at P
    (try go_wp2_with fail)
    replace L := P
    clear P
    clear c00 f00 c01 f01 c02 f02
    refine (G7.out _ L.below).mono ?_
    rintro e w4 ⟨v9, rfl, iz, be⟩
    obtain ⟨A4, c4, rfl, _, in9⟩ := iz.form
    replace L := (L.step be).n in9
    clear be iz in9
    have hl9 := L.b0.lt
    replace L := L.varD w4.heap.size rfl (ng Mu) A4 (zl Mu) c4 Eu
    have c00 := L.b0.c30
    have c01 := L.b0.c31
    have c02 := L.b0.c32
    have c20 := L.tl.tl.b0.c30
    have c21 := L.tl.tl.b0.c31
    have c22 := L.tl.tl.b0.c32
    go_wp2_with fail
    clear c00 c01 c02 c20 c21 c22
    obtain ⟨gm, hgm⟩ : ∃ g9, w4.heap.size = g9 := ⟨_, rfl⟩
    rw [hgm] at L hl9 ⊢
    clear hgm
    have hl_gm := hl9
    clear hl9
    obtain ⟨hj1, hj2, hk⟩ := HJ.out
    obtain ⟨hmu, heu⟩ := HMU.out
    obtain ⟨zu, eu⟩ := HU.out
    rw [hmu] at zu
    rw [heu] at eu
    obtain ⟨hp1, hs1, hl1, hu1, hM1, hE1⟩ := HW1.out
    obtain ⟨hp2, hs2, hl2, hu2, hM2, hE2⟩ := HW2.out
    obtain ⟨q1, q2, q3, _, _⟩ := np hs1 (by omega) (show p1 ≤ 3000 by omega)
    rw [hM1] at q2
    rw [hE1] at q3
    obtain ⟨ML, hML⟩ : ∃ z, mkM (addS M1 E1 (-Mu) Eu) (min E1 Eu) = z := ⟨_, rfl⟩
    obtain ⟨EL, hEL⟩ : ∃ z, mkE (addS M1 E1 (-Mu) Eu) (min E1 Eu) = z := ⟨_, rfl⟩
    obtain ⟨l1, l2, l3, l4, l5⟩ := ep_sum (-1) hs1 hp1 (show j ≤ 300 by omega) (Or.inr rfl) ML EL (by rw [hM1, hE1, hmu, heu, Int.neg_mul, Int.one_mul]; exact hML) (by rw [hM1, hE1, hmu, heu, Int.neg_mul, Int.one_mul]; exact hEL)
    rw [hM1, hE1, hmu, heu, Int.neg_mul, Int.one_mul] at l1
    have g8 := fun x y W h i (hW : Below w.heap.size w W) => dsub_any M1 E1 Mu Eu x y W h i (by omega) (by omega) (by omega) (by omega) (HT.out W hW)
    rw [l1, hML, hEL] at g8
    obtain ⟨r1, r2, r3, _, _⟩ := np hs2 (by omega) (show p2 ≤ 3000 by omega)
    rw [hM2] at r2
    rw [hE2] at r3
    obtain ⟨MH, hMH⟩ : ∃ z, mkM (addS M2 E2 Mu Eu) (min E2 Eu) = z := ⟨_, rfl⟩
    obtain ⟨EH, hEH⟩ : ∃ z, mkE (addS M2 E2 Mu Eu) (min E2 Eu) = z := ⟨_, rfl⟩
    obtain ⟨h1, h2, h3, h4, h5⟩ := ep_sum 1 hs2 hp2 (show j ≤ 300 by omega) (Or.inl rfl) MH EH (by rw [hM2, hE2, hmu, heu, Int.one_mul]; exact hMH) (by rw [hM2, hE2, hmu, heu, Int.one_mul]; exact hEH)
    rw [hM2, hE2, hmu, heu, Int.one_mul] at h1
    have g9 := fun x y W h i (hW : Below w.heap.size w W) => dadd_any M2 E2 Mu Eu x y W h i (by omega) (by omega) (by omega) (by omega) (HT.out W hW)
    rw [h1, hMH, hEH] at g9
    rw [hj1, show ((-1 : Int) : Rat) = -1 from rfl] at l2
    rw [hj1, show ((1 : Int) : Rat) = 1 from rfl] at h2
    have HL := Lib.hid (And.intro l2 (And.intro l3 (And.intro l4 l5)))
    have HH := Lib.hid (And.intro h2 (And.intro h3 h4))
    have G8 := Lib.hid g8
    have G9 := Lib.hid g9
    have g10 := fun x W h => dsign_any ML EL x W h (by omega)
    have G10 := Lib.hid g10
    clear g8 g9 g10 l1 l2 l3 l4 l5 h1 h2 h3 h4 h5 q1 q2 q3 zu eu hmu heu hj1 hj2 hk hML hEL hMH hEH hp1 hs1 hl1 hu1 hM1 hE1 hp2 hs2 hl2 hu2 hM2 hE2 r1 r2 r3
    refine (G8.out _ _ _ (isD_n (m := M1) (e := E1) (s := .slice A2 (zl M1) c2) (L.getN (by simp))) (isD_n (m := Mu) (e := Eu) (s := .slice A4 (zl Mu) c4) (L.getN (by simp))) L.below).mono ?_
    rintro e w5 ⟨v9, rfl, iz, be⟩
    obtain ⟨A5, c5, rfl, _, in9⟩ := iz.form
    replace L := (L.step be).n in9
    clear be iz in9
    have hl9 := L.b0.lt
    replace L := L.varD w5.heap.size rfl (ng ML) A5 (zl ML) c5 EL
    have c10 := L.tl.b0.c30
    have c11 := L.tl.b0.c31
    have c12 := L.tl.b0.c32
    have c20 := L.tl.tl.b0.c30
    have c21 := L.tl.tl.b0.c31
    have c22 := L.tl.tl.b0.c32
    go_wp2_with fail
    clear c10 c11 c12 c20 c21 c22
    obtain ⟨gl, hgl⟩ : ∃ g9, w5.heap.size = g9 := ⟨_, rfl⟩
    rw [hgl] at L hl9 ⊢
    clear hgl
    have hl_gl := hl9
    clear hl9
    refine (G9.out _ _ _ (isD_n (m := M2) (e := E2) (s := .slice A3 (zl M2) c3) (L.getN (by simp))) (isD_n (m := Mu) (e := Eu) (s := .slice A4 (zl Mu) c4) (L.getN (by simp))) L.below).mono ?_
    rintro e w6 ⟨v9, rfl, iz, be⟩
    obtain ⟨A6, c6, rfl, _, in9⟩ := iz.form
    replace L := (L.step be).n in9
    clear be iz in9
    have hl9 := L.b0.lt
    replace L := L.varD w6.heap.size rfl (ng MH) A6 (zl MH) c6 EH
    have c10 := L.tl.b0.c30
    have c11 := L.tl.b0.c31
    have c12 := L.tl.b0.c32
    go_wp2_with fail
    clear c10 c11 c12
    obtain ⟨gh, hgh⟩ : ∃ g9, w6.heap.size = g9 := ⟨_, rfl⟩
    rw [hgh] at L hl9 ⊢
    clear hgh
    have hl_gh := hl9
    clear hl9
    refine (G10.out _ _ (isD_n (m := ML) (e := EL) (s := .slice A5 (zl ML) c5) (L.getN (by simp)))).mono ?_
    rintro e w7 ⟨rfl, be⟩
    replace L := L.step be
    clear be
    have L9 := L.subx (ns' := [(.slice A5 (zl ML) c5, ML.natAbs), (.slice A6 (zl MH) c6, MH.natAbs)]) (bs' := [(gl, 26, #[.bool (ng ML), .slice A5 (zl ML) c5, .int .i64 EL]), (gh, 26, #[.bool (ng MH), .slice A6 (zl MH) c6, .int .i64 EH]), (w.heap.size + 1, 28, #[.bool false, .slice none 0 0, .int .i64 0, .bool false, .slice none 0 0, .int .i64 0])]) (by simp) (by simp)
    clear L
    have L := L9
    clear L9
    obtain ⟨l2, l3, l4, l5⟩ := HL.out
    obtain ⟨h2, h3, h4⟩ := HH.out
    obtain ⟨hj1, hj2, hk⟩ := HJ.out
    obtain ⟨hp1, hs1, hl1, hu1, hM1, hE1⟩ := HW1.out
    obtain ⟨hp2, hs2, hl2, hu2, hM2, hE2⟩ := HW2.out
    have n1 : gl ≠ gh := by omega
    have n2 : w.heap.size + 1 ≠ gh := by omega
    have n3 : w.heap.size + 1 ≠ gl := by omega
    have eb := ep_hi hl2 hu2 HLB.out.2
    have h2' : dq MH EH = dq s2 (-(p2 : Int)) + dq 1 (-((k : Int) + 20)) := by rw [h2, Rat.one_mul]
    rw [← h2'] at eb
    obtain ⟨b, hb⟩ : ∃ z, -(cutQ (-(dq MH EH)) (k : Int)) = z := ⟨_, rfl⟩
    rw [hb] at eb
    obtain ⟨b1, _⟩ := np eb.1 (by omega) (show k ≤ 3000 by omega)
    have l2' : dq ML EL = dq s1 (-(p1 : Int)) - dq 1 (-((k : Int) + 20)) := by rw [l2, Rat.sub_eq_add_neg, Rat.neg_mul, Rat.one_mul]
    clear l2 h2 h2'
    rcases Int.lt_or_le ML 0 with hneg | hneg
    · have d3 : decide (cmpI ML 0 < 0) = true := decide_eq_true (by rw [cmpI_lt hneg]; omega)
      have hz := (dq_le_iff 0 ML EL)
      rw [dq_zero] at hz
      have hq : dq ML EL < 0 := Rat.not_le.1 fun h => by have := hz.1 h; omega
      rw [l2'] at hq
      have ea := ep_lo (Q := dq 0 0) hl1 hu1 HLB.out.1 (Or.inl ⟨dq_zero 0, hq⟩)
      obtain ⟨a, ha⟩ : ∃ z, cutQ (dq 0 0) (k : Int) = z := ⟨_, rfl⟩
      rw [ha] at ea
      obtain ⟨a1, _⟩ := np ea.2.1 (by omega) (show k ≤ 3000 by omega)
      have g11 := fun x W h (hW : Below w.heap.size w W) => i10out_yes 0 0 MH EH (k : Int) x W h (by rw [show zl 0 = 0 from len_zero]; omega) (by omega) (by omega) (by omega) (by omega) (by omega) HPK.out (by rw [ha]; exact a1) (by rw [hb]; exact b1) (HT.out W hW)
      rw [ha, hb] at g11
      obtain ⟨Ma, hMa⟩ : ∃ z, mkM a (-(k : Int)) = z := ⟨_, rfl⟩
      obtain ⟨Ea, hEa⟩ : ∃ z, mkE a (-(k : Int)) = z := ⟨_, rfl⟩
      obtain ⟨Nb, hNb⟩ : ∃ z, mkM b (-(k : Int)) = z := ⟨_, rfl⟩
      obtain ⟨Fb, hFb⟩ : ∃ z, mkE b (-(k : Int)) = z := ⟨_, rfl⟩
      rw [hMa, hEa, hNb, hFb] at g11
      have G11 := Lib.hid g11
      have HR := Lib.hid (And.intro ea (And.intro eb (And.intro (And.intro hMa hEa) (And.intro hNb hFb))))
      clear g11 ea eb hMa hEa hNb hFb ha hb a1 b1 hz hq hneg hl1 hu1 hs1 hM1 hE1 l2' l3 l4 l5 h3 h4 hp1 hj1 hj2 hk hl2 hu2 hs2 hM2 hE2 hp2
      have c00 := L.b0.c30
      have f00 := L.b0.fr 0
      have c01 := L.b0.c31
      have f01 := L.b0.fr 1
      have c02 := L.b0.c32
      have f02 := L.b0.fr 2
      have c10 := L.tl.b0.c30
      have c11 := L.tl.b0.c31
      have c12 := L.tl.b0.c32
      have P := L.putD (by omega) (by simp [n1, n2, n3, Ne.symm n1, Ne.symm n2, Ne.symm n3]) false none 0 0 0
      have p00 := P.b0.c30
      have p01 := P.b0.c31
      have p02 := P.b0.c32
      have p03 := P.tl.b0.c30
      have p04 := P.tl.b0.c31
      have p05 := P.tl.b0.c32
      unfold put3 at p00 p01 p02 p03 p04 p05 P
      (try go_wp2_with fail)
      replace L := P
      clear P p00 p01 p02 p03 p04 p05
      clear c00 f00 c01 f01 c02 f02 c10 c11 c12
      refine (G11.out _ _ ⟨.slice none 0 0, .slice A6 (zl MH) c6, by simp [ng], IsN.zero _, L.getN (by simp)⟩ L.below).mono ?_
      rintro e w8 ⟨v2, rfl, ii, be⟩
      obtain ⟨A8, c8, B8, d8, rfl, ia, ib⟩ := ii.form
      replace L := (((L.step be).n ib).n ia).pull2
      clear be ii ia ib
      have c00 := L.b0.c60
      have f00 := L.b0.fr 0
      have c01 := L.b0.c61
      have f01 := L.b0.fr 1
      have c02 := L.b0.c62
      have f02 := L.b0.fr 2
      have c03 := L.b0.c63
      have f03 := L.b0.fr 3
      have c04 := L.b0.c64
      have f04 := L.b0.fr 4
      have c05 := L.b0.c65
      have f05 := L.b0.fr 5
      go_wp2_with fail
      clear c00 f00 c01 f01 c02 f02 c03 f03 c04 f04 c05 f05
      obtain ⟨ea, eb, ⟨hMa, hEa⟩, hNb, hFb⟩ := HR.out
      subst hMa hEa hNb hFb
      have LP := L.putI (by omega) (by simp [n2, n3, Ne.symm n2, Ne.symm n3]) (ng (mkM a (-(k : Int)))) A8 (zl (mkM a (-(k : Int)))) c8 (mkE a (-(k : Int))) (ng (mkM b (-(k : Int)))) B8 (zl (mkM b (-(k : Int)))) d8 (mkE b (-(k : Int)))
      have k0 := LP.b0.c60
      have k1 := LP.b0.c61
      have k2 := LP.b0.c62
      have k3 := LP.b0.c63
      have k4 := LP.b0.c64
      have k5 := LP.b0.c65
      unfold put6 at k0 k1 k2 k3 k4 k5
      exact bodyPost_ret (v := .tuple #[.agg #[.bool (ng (mkM a (-(k : Int)))), .slice A8 (zl (mkM a (-(k : Int)))) c8, .int .i64 (mkE a (-(k : Int))), .bool (ng (mkM b (-(k : Int)))), .slice B8 (zl (mkM b (-(k : Int)))) d8, .int .i64 (mkE b (-(k : Int)))], .int .i64 0]) (by simp [results, Tryz.results19, go_sem, k0, k1, k2, k3, k4, k5]) rfl ⟨a, b, ea, eb, _, rfl, isI_n (LP.getN (by simp)) (LP.getN (by simp)), LP.below⟩
    · have d3 : decide (cmpI ML 0 < 0) = false := by
        refine decide_eq_false ?_
        unfold cmpI
        (repeat' split) <;> omega
      have hz := (dq_le_iff 0 ML EL)
      rw [dq_zero] at hz
      have hq := hz.2 hneg
      have ea := ep_lo (Q := dq ML EL) hl1 hu1 HLB.out.1 (Or.inr ⟨l2', hq⟩)
      obtain ⟨a, ha⟩ : ∃ z, cutQ (dq ML EL) (k : Int) = z := ⟨_, rfl⟩
      rw [ha] at ea
      obtain ⟨a1, _⟩ := np ea.2.1 (by omega) (show k ≤ 3000 by omega)
      have g11 := fun x W h (hW : Below w.heap.size w W) => i10out_yes ML EL MH EH (k : Int) x W h (by omega) (by omega) (by omega) (by omega) (by omega) (by omega) HPK.out (by rw [ha]; exact a1) (by rw [hb]; exact b1) (HT.out W hW)
      rw [ha, hb] at g11
      obtain ⟨Ma, hMa⟩ : ∃ z, mkM a (-(k : Int)) = z := ⟨_, rfl⟩
      obtain ⟨Ea, hEa⟩ : ∃ z, mkE a (-(k : Int)) = z := ⟨_, rfl⟩
      obtain ⟨Nb, hNb⟩ : ∃ z, mkM b (-(k : Int)) = z := ⟨_, rfl⟩
      obtain ⟨Fb, hFb⟩ : ∃ z, mkE b (-(k : Int)) = z := ⟨_, rfl⟩
      rw [hMa, hEa, hNb, hFb] at g11
      have G11 := Lib.hid g11
      have HR := Lib.hid (And.intro ea (And.intro eb (And.intro (And.intro hMa hEa) (And.intro hNb hFb))))
      clear g11 ea eb hMa hEa hNb hFb ha hb a1 b1 hz hq hneg hl1 hu1 hs1 hM1 hE1 l2' l3 l4 l5 h3 h4 hp1 hj1 hj2 hk hl2 hu2 hs2 hM2 hE2 hp2
      have c00 := L.b0.c30
      have f00 := L.b0.fr 0
      have c01 := L.b0.c31
      have f01 := L.b0.fr 1
      have c02 := L.b0.c32
      have f02 := L.b0.fr 2
      have c10 := L.tl.b0.c30
      have c11 := L.tl.b0.c31
      have c12 := L.tl.b0.c32
      (try go_wp2_with fail)
      clear c00 f00 c01 f01 c02 f02 c10 c11 c12
      refine (G11.out _ _ (isI_n (m := ML) (e := EL) (n := MH) (f := EH) (s := .slice A5 (zl ML) c5) (t := .slice A6 (zl MH) c6) (L.getN (by simp)) (L.getN (by simp))) L.below).mono ?_
      rintro e w8 ⟨v2, rfl, ii, be⟩
      obtain ⟨A8, c8, B8, d8, rfl, ia, ib⟩ := ii.form
      replace L := (((L.step be).n ib).n ia).pull2
      clear be ii ia ib
      have c00 := L.b0.c60
      have f00 := L.b0.fr 0
      have c01 := L.b0.c61
      have f01 := L.b0.fr 1
      have c02 := L.b0.c62
      have f02 := L.b0.fr 2
      have c03 := L.b0.c63
      have f03 := L.b0.fr 3
      have c04 := L.b0.c64
      have f04 := L.b0.fr 4
      have c05 := L.b0.c65
      have f05 := L.b0.fr 5
      go_wp2_with fail
      clear c00 f00 c01 f01 c02 f02 c03 f03 c04 f04 c05 f05
      obtain ⟨ea, eb, ⟨hMa, hEa⟩, hNb, hFb⟩ := HR.out
      subst hMa hEa hNb hFb
      have LP := L.putI (by omega) (by simp [n2, n3, Ne.symm n2, Ne.symm n3]) (ng (mkM a (-(k : Int)))) A8 (zl (mkM a (-(k : Int)))) c8 (mkE a (-(k : Int))) (ng (mkM b (-(k : Int)))) B8 (zl (mkM b (-(k : Int)))) d8 (mkE b (-(k : Int)))
      have k0 := LP.b0.c60
      have k1 := LP.b0.c61
      have k2 := LP.b0.c62
      have k3 := LP.b0.c63
      have k4 := LP.b0.c64
      have k5 := LP.b0.c65
      unfold put6 at k0 k1 k2 k3 k4 k5
      exact bodyPost_ret (v := .tuple #[.agg #[.bool (ng (mkM a (-(k : Int)))), .slice A8 (zl (mkM a (-(k : Int)))) c8, .int .i64 (mkE a (-(k : Int))), .bool (ng (mkM b (-(k : Int)))), .slice B8 (zl (mkM b (-(k : Int)))) d8, .int .i64 (mkE b (-(k : Int)))], .int .i64 0]) (by simp [results, Tryz.results19, go_sem, k0, k1, k2, k3, k4, k5]) rfl ⟨a, b, ea, eb, _, rfl, isI_n (LP.getN (by simp)) (LP.getN (by simp)), LP.below⟩
  · have d2 : decide (cn < 0) = false := decide_eq_false (by omega)
    go_enter Tryz.func19, Tryz.ntmps19
    have L := ((L0.varI (w.heap.size) (by simp) (ng m) A (zl m) c e (ng m) B (zl m) d e).varI (w.heap.size + 1) (by simp) false none 0 0 0 false none 0 0 0)
    have c00 := L.b0.c60
    have f00 := L.b0.fr 0
    have c01 := L.b0.c61
    have f01 := L.b0.fr 1
    have c02 := L.b0.c62
    have f02 := L.b0.fr 2
    have c03 := L.b0.c63
    have f03 := L.b0.fr 3
    have c04 := L.b0.c64
    have f04 := L.b0.fr 4
    have c05 := L.b0.c65
    have f05 := L.b0.fr 5
    (try go_wp2_with fail)
    refine (HP.out _).mono ?_
    rintro e9 w' ⟨rfl, rfl⟩
    (try go_wp2_with fail)
    replace L := L.drew
    clear c00 f00 c01 f01 c02 f02 c03 f03 c04 f04 c05 f05
    have c10 := L.tl.b0.c60
    have c11 := L.tl.b0.c61
    have c12 := L.tl.b0.c62
    have c13 := L.tl.b0.c63
    have c14 := L.tl.b0.c64
    have c15 := L.tl.b0.c65
    go_region_held3 (fun w' => w'.cell? ⟨w.heap.size, 0, none⟩ = some (.bool (ng m)) ∧ w'.cell? ⟨w.heap.size, 1, none⟩ = some (.slice A (zl m) c) ∧ w'.cell? ⟨w.heap.size, 2, none⟩ = some (.int .i64 e) ∧ w'.cell? ⟨w.heap.size, 3, none⟩ = some (.bool (ng m)) ∧ w'.cell? ⟨w.heap.size, 4, none⟩ = some (.slice B (zl m) d) ∧ w'.cell? ⟨w.heap.size, 5, none⟩ = some (.int .i64 e)) (first | (with_reducible exact ⟨L.tl.b0.c60, L.tl.b0.c61, L.tl.b0.c62, L.tl.b0.c63, L.tl.b0.c64, L.tl.b0.c65⟩) | exact ⟨L.tl.b0.c60, L.tl.b0.c61, L.tl.b0.c62, L.tl.b0.c63, L.tl.b0.c64, L.tl.b0.c65⟩) (first | (go_at_call 39; (with_reducible refine (G1.out _ _ ?_ ).mono ?_); (· (refine isI_n (L.getN ?_) (L.getN ?_); all_goals (repeat (first | (with_reducible exact List.mem_cons_self) | apply List.mem_cons_of_mem)))); rintro e wh ⟨rfl, be⟩; replace L := L.step be; clear be) | (go_at_call 64; (with_reducible refine (G2.out _ ?_ ).mono ?_); (· exact L.below); rintro e wh ⟨vh, rfl, id, be⟩; obtain ⟨A1, c1, rfl, _, in9⟩ := id.form; replace L := (L.step be).n in9; clear be id in9) | (go_at_call 41; (with_reducible refine (G3.out _ _ _ ?_ ?_ ).mono ?_); (· (refine isD_n (L.getN ?_); (repeat (first | (with_reducible exact List.mem_cons_self) | apply List.mem_cons_of_mem)))); (· (refine isD_n (L.getN ?_); (repeat (first | (with_reducible exact List.mem_cons_self) | apply List.mem_cons_of_mem)))); rintro e wh ⟨rfl, be⟩; replace L := L.step be; clear be))
    clear c10 c11 c12 c13 c14 c15
    have c10 := L.tl.b0.c60
    have c11 := L.tl.b0.c61
    have c12 := L.tl.b0.c62
    have c13 := L.tl.b0.c63
    have c14 := L.tl.b0.c64
    have c15 := L.tl.b0.c65
    (try go_wp2_with fail)
    refine (G4.out _ _ (isD_n (m := m) (e := e) (s := .slice A (zl m) c) (L.getN (by simp))) L.below).mono ?_
    rintro e w1 ⟨s1, p1, hp1, hs1, hn19, hl1, hu1, v9, rfl, iz, be⟩
    clear c10 c11 c12 c13 c14 c15
    obtain ⟨A2, c2, rfl, _, in9⟩ := iz.form
    replace L := (L.step be).n in9
    clear be iz in9
    have hl9 := L.b0.lt
    obtain ⟨M1, hM1⟩ : ∃ z, mkM s1 (-(p1 : Int)) = z := ⟨_, rfl⟩
    obtain ⟨E1, hE1⟩ : ∃ z, mkE s1 (-(p1 : Int)) = z := ⟨_, rfl⟩
    rw [hM1] at L ⊢
    rw [hE1]
    have HW1 := Lib.hid (And.intro hp1 (And.intro hs1 (And.intro hl1 (And.intro hu1 (And.intro hM1 hE1)))))
    clear hp1 hs1 hn19 hl1 hu1 hM1 hE1
    replace L := L.varD w1.heap.size rfl (ng M1) A2 (zl M1) c2 E1
    have c00 := L.b0.c30
    have c01 := L.b0.c31
    have c02 := L.b0.c32
    replace L := L.varD (w1.heap.size + 1) (by simp) (ng M1) A2 (zl M1) c2 E1
    have d00 := L.tl.tl.tl.b0.c60
    have d01 := L.tl.tl.tl.b0.c61
    have d02 := L.tl.tl.tl.b0.c62
    have d03 := L.tl.tl.tl.b0.c63
    have d04 := L.tl.tl.tl.b0.c64
    have d05 := L.tl.tl.tl.b0.c65
    (try go_wp2_with fail)
    clear c00 c01 c02 d00 d01 d02 d03 d04 d05
    obtain ⟨g1, hg1⟩ : ∃ g9, w1.heap.size = g9 := ⟨_, rfl⟩
    rw [hg1] at L hl9 ⊢
    clear hg1
    have hl_g1 := hl9
    clear hl9
    refine (G6.out _ _ _ (isD_n (m := m) (e := e) (s := .slice A (zl m) c) (L.getN (by simp))) (isD_n (m := m) (e := e) (s := .slice B (zl m) d) (L.getN (by simp)))).mono ?_
    rintro e w2 ⟨rfl, be⟩
    replace L := L.step be
    clear be
    (try go_wp2_with fail)
    refine (G7.out _ L.below).mono ?_
    rintro e w3 ⟨v9, rfl, iz, be⟩
    obtain ⟨A4, c4, rfl, _, in9⟩ := iz.form
    replace L := (L.step be).n in9
    clear be iz in9
    have hl9 := L.b0.lt
    replace L := L.varD w3.heap.size rfl (ng Mu) A4 (zl Mu) c4 Eu
    have c00 := L.b0.c30
    have c01 := L.b0.c31
    have c02 := L.b0.c32
    have c20 := L.tl.tl.b0.c30
    have c21 := L.tl.tl.b0.c31
    have c22 := L.tl.tl.b0.c32
    go_wp2_with fail
    clear c00 c01 c02 c20 c21 c22
    obtain ⟨gm, hgm⟩ : ∃ g9, w3.heap.size = g9 := ⟨_, rfl⟩
    rw [hgm] at L hl9 ⊢
    clear hgm
    have hl_gm := hl9
    clear hl9
    obtain ⟨hj1, hj2, hk⟩ := HJ.out
    obtain ⟨hmu, heu⟩ := HMU.out
    obtain ⟨zu, eu⟩ := HU.out
    rw [hmu] at zu
    rw [heu] at eu
    obtain ⟨hp1, hs1, hl1, hu1, hM1, hE1⟩ := HW1.out
    obtain ⟨q1, q2, q3, _, _⟩ := np hs1 (by omega) (show p1 ≤ 3000 by omega)
    rw [hM1] at q2
    rw [hE1] at q3
    obtain ⟨ML, hML⟩ : ∃ z, mkM (addS M1 E1 (-Mu) Eu) (min E1 Eu) = z := ⟨_, rfl⟩
    obtain ⟨EL, hEL⟩ : ∃ z, mkE (addS M1 E1 (-Mu) Eu) (min E1 Eu) = z := ⟨_, rfl⟩
    obtain ⟨l1, l2, l3, l4, l5⟩ := ep_sum (-1) hs1 hp1 (show j ≤ 300 by omega) (Or.inr rfl) ML EL (by rw [hM1, hE1, hmu, heu, Int.neg_mul, Int.one_mul]; exact hML) (by rw [hM1, hE1, hmu, heu, Int.neg_mul, Int.one_mul]; exact hEL)
    rw [hM1, hE1, hmu, heu, Int.neg_mul, Int.one_mul] at l1
    have g8 := fun x y W h i (hW : Below w.heap.size w W) => dsub_any M1 E1 Mu Eu x y W h i (by omega) (by omega) (by omega) (by omega) (HT.out W hW)
    rw [l1, hML, hEL] at g8
    obtain ⟨MH, hMH⟩ : ∃ z, mkM (addS M1 E1 Mu Eu) (min E1 Eu) = z := ⟨_, rfl⟩
    obtain ⟨EH, hEH⟩ : ∃ z, mkE (addS M1 E1 Mu Eu) (min E1 Eu) = z := ⟨_, rfl⟩
    obtain ⟨h1, h2, h3, h4, h5⟩ := ep_sum 1 hs1 hp1 (show j ≤ 300 by omega) (Or.inl rfl) MH EH (by rw [hM1, hE1, hmu, heu, Int.one_mul]; exact hMH) (by rw [hM1, hE1, hmu, heu, Int.one_mul]; exact hEH)
    rw [hM1, hE1, hmu, heu, Int.one_mul] at h1
    have g9 := fun x y W h i (hW : Below w.heap.size w W) => dadd_any M1 E1 Mu Eu x y W h i (by omega) (by omega) (by omega) (by omega) (HT.out W hW)
    rw [h1, hMH, hEH] at g9
    rw [hj1, show ((-1 : Int) : Rat) = -1 from rfl] at l2
    rw [hj1, show ((1 : Int) : Rat) = 1 from rfl] at h2
    have HL := Lib.hid (And.intro l2 (And.intro l3 (And.intro l4 l5)))
    have HH := Lib.hid (And.intro h2 (And.intro h3 h4))
    have G8 := Lib.hid g8
    have G9 := Lib.hid g9
    have g10 := fun x W h => dsign_any ML EL x W h (by omega)
    have G10 := Lib.hid g10
    clear g8 g9 g10 l1 l2 l3 l4 l5 h1 h2 h3 h4 h5 q1 q2 q3 zu eu hmu heu hj1 hj2 hk hML hEL hMH hEH hp1 hs1 hl1 hu1 hM1 hE1
    refine (G8.out _ _ _ (isD_n (m := M1) (e := E1) (s := .slice A2 (zl M1) c2) (L.getN (by simp))) (isD_n (m := Mu) (e := Eu) (s := .slice A4 (zl Mu) c4) (L.getN (by simp))) L.below).mono ?_
    rintro e w4 ⟨v9, rfl, iz, be⟩
    obtain ⟨A5, c5, rfl, _, in9⟩ := iz.form
    replace L := (L.step be).n in9
    clear be iz in9
    have hl9 := L.b0.lt
    replace L := L.varD w4.heap.size rfl (ng ML) A5 (zl ML) c5 EL
    have c10 := L.tl.b0.c30
    have c11 := L.tl.b0.c31
    have c12 := L.tl.b0.c32
    have c20 := L.tl.tl.b0.c30
    have c21 := L.tl.tl.b0.c31
    have c22 := L.tl.tl.b0.c32
    go_wp2_with fail
    clear c10 c11 c12 c20 c21 c22
    obtain ⟨gl, hgl⟩ : ∃ g9, w4.heap.size = g9 := ⟨_, rfl⟩
    rw [hgl] at L hl9 ⊢
    clear hgl
    have hl_gl := hl9
    clear hl9
    refine (G9.out _ _ _ (isD_n (m := M1) (e := E1) (s := .slice A2 (zl M1) c2) (L.getN (by simp))) (isD_n (m := Mu) (e := Eu) (s := .slice A4 (zl Mu) c4) (L.getN (by simp))) L.below).mono ?_
    rintro e w5 ⟨v9, rfl, iz, be⟩
    obtain ⟨A6, c6, rfl, _, in9⟩ := iz.form
    replace L := (L.step be).n in9
    clear be iz in9
    have hl9 := L.b0.lt
    replace L := L.varD w5.heap.size rfl (ng MH) A6 (zl MH) c6 EH
    have c10 := L.tl.b0.c30
    have c11 := L.tl.b0.c31
    have c12 := L.tl.b0.c32
    go_wp2_with fail
    clear c10 c11 c12
    obtain ⟨gh, hgh⟩ : ∃ g9, w5.heap.size = g9 := ⟨_, rfl⟩
    rw [hgh] at L hl9 ⊢
    clear hgh
    have hl_gh := hl9
    clear hl9
    refine (G10.out _ _ (isD_n (m := ML) (e := EL) (s := .slice A5 (zl ML) c5) (L.getN (by simp)))).mono ?_
    rintro e w6 ⟨rfl, be⟩
    replace L := L.step be
    clear be
    have L9 := L.subx (ns' := [(.slice A5 (zl ML) c5, ML.natAbs), (.slice A6 (zl MH) c6, MH.natAbs)]) (bs' := [(gl, 26, #[.bool (ng ML), .slice A5 (zl ML) c5, .int .i64 EL]), (gh, 26, #[.bool (ng MH), .slice A6 (zl MH) c6, .int .i64 EH]), (w.heap.size + 1, 28, #[.bool false, .slice none 0 0, .int .i64 0, .bool false, .slice none 0 0, .int .i64 0])]) (by simp) (by simp)
    clear L
    have L := L9
    clear L9
    obtain ⟨l2, l3, l4, l5⟩ := HL.out
    obtain ⟨h2, h3, h4⟩ := HH.out
    obtain ⟨hj1, hj2, hk⟩ := HJ.out
    obtain ⟨hp1, hs1, hl1, hu1, hM1, hE1⟩ := HW1.out
    have n1 : gl ≠ gh := by omega
    have n2 : w.heap.size + 1 ≠ gh := by omega
    have n3 : w.heap.size + 1 ≠ gl := by omega
    have eb := ep_hi hl1 hu1 HLB.out.1
    have h2' : dq MH EH = dq s1 (-(p1 : Int)) + dq 1 (-((k : Int) + 20)) := by rw [h2, Rat.one_mul]
    rw [← h2'] at eb
    obtain ⟨b, hb⟩ : ∃ z, -(cutQ (-(dq MH EH)) (k : Int)) = z := ⟨_, rfl⟩
    rw [hb] at eb
    obtain ⟨b1, _⟩ := np eb.1 (by omega) (show k ≤ 3000 by omega)
    have l2' : dq ML EL = dq s1 (-(p1 : Int)) - dq 1 (-((k : Int) + 20)) := by rw [l2, Rat.sub_eq_add_neg, Rat.neg_mul, Rat.one_mul]
    clear l2 h2 h2'
    rcases Int.lt_or_le ML 0 with hneg | hneg
    · have d3 : decide (cmpI ML 0 < 0) = true := decide_eq_true (by rw [cmpI_lt hneg]; omega)
      have hz := (dq_le_iff 0 ML EL)
      rw [dq_zero] at hz
      have hq : dq ML EL < 0 := Rat.not_le.1 fun h => by have := hz.1 h; omega
      rw [l2'] at hq
      have ea := ep_lo (Q := dq 0 0) hl1 hu1 HLB.out.1 (Or.inl ⟨dq_zero 0, hq⟩)
      obtain ⟨a, ha⟩ : ∃ z, cutQ (dq 0 0) (k : Int) = z := ⟨_, rfl⟩
      rw [ha] at ea
      obtain ⟨a1, _⟩ := np ea.2.1 (by omega) (show k ≤ 3000 by omega)
      have g11 := fun x W h (hW : Below w.heap.size w W) => i10out_yes 0 0 MH EH (k : Int) x W h (by rw [show zl 0 = 0 from len_zero]; omega) (by omega) (by omega) (by omega) (by omega) (by omega) HPK.out (by rw [ha]; exact a1) (by rw [hb]; exact b1) (HT.out W hW)
      rw [ha, hb] at g11
      obtain ⟨Ma, hMa⟩ : ∃ z, mkM a (-(k : Int)) = z := ⟨_, rfl⟩
      obtain ⟨Ea, hEa⟩ : ∃ z, mkE a (-(k : Int)) = z := ⟨_, rfl⟩
      obtain ⟨Nb, hNb⟩ : ∃ z, mkM b (-(k : Int)) = z := ⟨_, rfl⟩
      obtain ⟨Fb, hFb⟩ : ∃ z, mkE b (-(k : Int)) = z := ⟨_, rfl⟩
      rw [hMa, hEa, hNb, hFb] at g11
      have G11 := Lib.hid g11
      have HR := Lib.hid (And.intro ea (And.intro eb (And.intro (And.intro hMa hEa) (And.intro hNb hFb))))
      clear g11 ea eb hMa hEa hNb hFb ha hb a1 b1 hz hq hneg hl1 hu1 hs1 hM1 hE1 l2' l3 l4 l5 h3 h4 hp1 hj1 hj2 hk
      have c00 := L.b0.c30
      have f00 := L.b0.fr 0
      have c01 := L.b0.c31
      have f01 := L.b0.fr 1
      have c02 := L.b0.c32
      have f02 := L.b0.fr 2
      have c10 := L.tl.b0.c30
      have c11 := L.tl.b0.c31
      have c12 := L.tl.b0.c32
      have P := L.putD (by omega) (by simp [n1, n2, n3, Ne.symm n1, Ne.symm n2, Ne.symm n3]) false none 0 0 0
      have p00 := P.b0.c30
      have p01 := P.b0.c31
      have p02 := P.b0.c32
      have p03 := P.tl.b0.c30
      have p04 := P.tl.b0.c31
      have p05 := P.tl.b0.c32
      unfold put3 at p00 p01 p02 p03 p04 p05 P
      (try go_wp2_with fail)
      replace L := P
      clear P p00 p01 p02 p03 p04 p05
      clear c00 f00 c01 f01 c02 f02 c10 c11 c12
      refine (G11.out _ _ ⟨.slice none 0 0, .slice A6 (zl MH) c6, by simp [ng], IsN.zero _, L.getN (by simp)⟩ L.below).mono ?_
      rintro e w7 ⟨v2, rfl, ii, be⟩
      obtain ⟨A8, c8, B8, d8, rfl, ia, ib⟩ := ii.form
      replace L := (((L.step be).n ib).n ia).pull2
      clear be ii ia ib
      have c00 := L.b0.c60
      have f00 := L.b0.fr 0
      have c01 := L.b0.c61
      have f01 := L.b0.fr 1
      have c02 := L.b0.c62
      have f02 := L.b0.fr 2
      have c03 := L.b0.c63
      have f03 := L.b0.fr 3
      have c04 := L.b0.c64
      have f04 := L.b0.fr 4
      have c05 := L.b0.c65
      have f05 := L.b0.fr 5
      go_wp2_with fail
      clear c00 f00 c01 f01 c02 f02 c03 f03 c04 f04 c05 f05
      obtain ⟨ea, eb, ⟨hMa, hEa⟩, hNb, hFb⟩ := HR.out
      subst hMa hEa hNb hFb
      have LP := L.putI (by omega) (by simp [n2, n3, Ne.symm n2, Ne.symm n3]) (ng (mkM a (-(k : Int)))) A8 (zl (mkM a (-(k : Int)))) c8 (mkE a (-(k : Int))) (ng (mkM b (-(k : Int)))) B8 (zl (mkM b (-(k : Int)))) d8 (mkE b (-(k : Int)))
      have k0 := LP.b0.c60
      have k1 := LP.b0.c61
      have k2 := LP.b0.c62
      have k3 := LP.b0.c63
      have k4 := LP.b0.c64
      have k5 := LP.b0.c65
      unfold put6 at k0 k1 k2 k3 k4 k5
      exact bodyPost_ret (v := .tuple #[.agg #[.bool (ng (mkM a (-(k : Int)))), .slice A8 (zl (mkM a (-(k : Int)))) c8, .int .i64 (mkE a (-(k : Int))), .bool (ng (mkM b (-(k : Int)))), .slice B8 (zl (mkM b (-(k : Int)))) d8, .int .i64 (mkE b (-(k : Int)))], .int .i64 0]) (by simp [results, Tryz.results19, go_sem, k0, k1, k2, k3, k4, k5]) rfl ⟨a, b, ea, eb, _, rfl, isI_n (LP.getN (by simp)) (LP.getN (by simp)), LP.below⟩
    · have d3 : decide (cmpI ML 0 < 0) = false := by
        refine decide_eq_false ?_
        unfold cmpI
        (repeat' split) <;> omega
      have hz := (dq_le_iff 0 ML EL)
      rw [dq_zero] at hz
      have hq := hz.2 hneg
      have ea := ep_lo (Q := dq ML EL) hl1 hu1 HLB.out.1 (Or.inr ⟨l2', hq⟩)
      obtain ⟨a, ha⟩ : ∃ z, cutQ (dq ML EL) (k : Int) = z := ⟨_, rfl⟩
      rw [ha] at ea
      obtain ⟨a1, _⟩ := np ea.2.1 (by omega) (show k ≤ 3000 by omega)
      have g11 := fun x W h (hW : Below w.heap.size w W) => i10out_yes ML EL MH EH (k : Int) x W h (by omega) (by omega) (by omega) (by omega) (by omega) (by omega) HPK.out (by rw [ha]; exact a1) (by rw [hb]; exact b1) (HT.out W hW)
      rw [ha, hb] at g11
      obtain ⟨Ma, hMa⟩ : ∃ z, mkM a (-(k : Int)) = z := ⟨_, rfl⟩
      obtain ⟨Ea, hEa⟩ : ∃ z, mkE a (-(k : Int)) = z := ⟨_, rfl⟩
      obtain ⟨Nb, hNb⟩ : ∃ z, mkM b (-(k : Int)) = z := ⟨_, rfl⟩
      obtain ⟨Fb, hFb⟩ : ∃ z, mkE b (-(k : Int)) = z := ⟨_, rfl⟩
      rw [hMa, hEa, hNb, hFb] at g11
      have G11 := Lib.hid g11
      have HR := Lib.hid (And.intro ea (And.intro eb (And.intro (And.intro hMa hEa) (And.intro hNb hFb))))
      clear g11 ea eb hMa hEa hNb hFb ha hb a1 b1 hz hq hneg hl1 hu1 hs1 hM1 hE1 l2' l3 l4 l5 h3 h4 hp1 hj1 hj2 hk
      have c00 := L.b0.c30
      have f00 := L.b0.fr 0
      have c01 := L.b0.c31
      have f01 := L.b0.fr 1
      have c02 := L.b0.c32
      have f02 := L.b0.fr 2
      have c10 := L.tl.b0.c30
      have c11 := L.tl.b0.c31
      have c12 := L.tl.b0.c32
      (try go_wp2_with fail)
      clear c00 f00 c01 f01 c02 f02 c10 c11 c12
      refine (G11.out _ _ (isI_n (m := ML) (e := EL) (n := MH) (f := EH) (s := .slice A5 (zl ML) c5) (t := .slice A6 (zl MH) c6) (L.getN (by simp)) (L.getN (by simp))) L.below).mono ?_
      rintro e w7 ⟨v2, rfl, ii, be⟩
      obtain ⟨A8, c8, B8, d8, rfl, ia, ib⟩ := ii.form
      replace L := (((L.step be).n ib).n ia).pull2
      clear be ii ia ib
      have c00 := L.b0.c60
      have f00 := L.b0.fr 0
      have c01 := L.b0.c61
      have f01 := L.b0.fr 1
      have c02 := L.b0.c62
      have f02 := L.b0.fr 2
      have c03 := L.b0.c63
      have f03 := L.b0.fr 3
      have c04 := L.b0.c64
      have f04 := L.b0.fr 4
      have c05 := L.b0.c65
      have f05 := L.b0.fr 5
      go_wp2_with fail
      clear c00 f00 c01 f01 c02 f02 c03 f03 c04 f04 c05 f05
      obtain ⟨ea, eb, ⟨hMa, hEa⟩, hNb, hFb⟩ := HR.out
      subst hMa hEa hNb hFb
      have LP := L.putI (by omega) (by simp [n2, n3, Ne.symm n2, Ne.symm n3]) (ng (mkM a (-(k : Int)))) A8 (zl (mkM a (-(k : Int)))) c8 (mkE a (-(k : Int))) (ng (mkM b (-(k : Int)))) B8 (zl (mkM b (-(k : Int)))) d8 (mkE b (-(k : Int)))
      have k0 := LP.b0.c60
      have k1 := LP.b0.c61
      have k2 := LP.b0.c62
      have k3 := LP.b0.c63
      have k4 := LP.b0.c64
      have k5 := LP.b0.c65
      unfold put6 at k0 k1 k2 k3 k4 k5
      exact bodyPost_ret (v := .tuple #[.agg #[.bool (ng (mkM a (-(k : Int)))), .slice A8 (zl (mkM a (-(k : Int)))) c8, .int .i64 (mkE a (-(k : Int))), .bool (ng (mkM b (-(k : Int)))), .slice B8 (zl (mkM b (-(k : Int)))) d8, .int .i64 (mkE b (-(k : Int)))], .int .i64 0]) (by simp [results, Tryz.results19, go_sem, k0, k1, k2, k3, k4, k5]) rfl ⟨a, b, ea, eb, _, rfl, isI_n (LP.getN (by simp)) (LP.getN (by simp)), LP.below⟩

section
open Go.ChangeShapes Go.WideShapes Go.ChangeAt

theorem open_slice8 {H : Type} {enc : TypeId × Value → H} {W : World} {base : Nat} {fuel : Nat} {v : Value} {x : DataW H × List MemPlace} (h : DataW.trod enc Tryz.prog W base (fun _ => true) true fuel 22 [v] = some x) : ∃ a n c l, v = .slice a n c ∧ Sl W a n c l := by
  rcases open_ints Tryz.underlying22 Tryz.underlying137 (by kernel_rfl) h with ⟨hcs, _⟩ | ⟨x, l, c, zs, hcs, _, hl, hm, hz, _, hcell, hwz⟩
  · exact ⟨none, 0, 0, [], by simpa using hcs, Sl.nil W⟩
  · exact ⟨_, _, _, _, by simpa using hcs, sl_of_ints hl hm (by simpa using hz) hcell hwz⟩
end
section
open Go.ChangeShapes Go.WideShapes Go.ChangeAt

theorem array6 {a : Array Value} (h : a.size = 6) : ∃ x0 x1 x2 x3 x4 x5, a = #[x0, x1, x2, x3, x4, x5] := by
  obtain ⟨l⟩ := a
  rcases l with _ | ⟨x0, _ | ⟨x1, _ | ⟨x2, _ | ⟨x3, _ | ⟨x4, _ | ⟨x5, _ | ⟨x6, l⟩⟩⟩⟩⟩⟩⟩ <;> first | exact ⟨_, _, _, _, _, _, rfl⟩ | (exfalso; simp at h)
theorem open_dy3 {H : Type} {enc : TypeId × Value → H} {W : World} {base n : Nat} {c0 c1 c2 : Value} {y : DataW H × List MemPlace} (h : DataW.trod enc Tryz.prog W base (fun _ => true) true n 26 [c0, c1, c2] = some y) :
    ∃ b A p c l e, c0 = .bool b ∧ c1 = .slice A p c ∧ c2 = .int .i64 e ∧ Sl W A p c l ∧ -9223372036854775808 ≤ e ∧ e ≤ 9223372036854775807 := by
  obtain ⟨y0, y1, n, _, _, h0, h1⟩ := trod_struct2 Tryz.underlying26 h
  have e0 : Tryz.prog.cellsOf 24 = 2 := by kernel_rfl
  have e1 : Tryz.prog.cellsOf 22 = 1 := by kernel_rfl
  have e3 : Tryz.prog.cellsOf 3 = 1 := by kernel_rfl
  have h0' : DataW.trod enc Tryz.prog W base (fun _ => true) true n 24 [c0, c1] = some y0 := by
    simpa [Value.cells, e0] using h0
  have h1' : DataW.trod enc Tryz.prog W base (fun _ => true) true n 3 [c2] = some y1 := by
    simpa [Value.cells, e0, e3] using h1
  obtain ⟨z0, z1, n2, _, _, g0, g1⟩ := trod_struct2 Tryz.underlying24 h0'
  have e2 : Tryz.prog.cellsOf 4 = 1 := by kernel_rfl
  have g0' : DataW.trod enc Tryz.prog W base (fun _ => true) true n2 4 [c0] = some z0 := by
    simpa [e2] using g0
  have g1' : DataW.trod enc Tryz.prog W base (fun _ => true) true n2 22 [c1] = some z1 := by
    simpa [e1, e2] using g1
  obtain ⟨b, hb, _⟩ := DataW.trod_bool Tryz.underlying4 g0'
  obtain rfl : c0 = .bool b := by simpa using hb
  obtain ⟨A, n3, c3, l, rfl, s1⟩ := open_slice8 g1'
  obtain ⟨e, he, _, hw⟩ := DataW.trod_int Tryz.underlying3 h1'
  obtain rfl : c2 = .int .i64 e := by simpa using he
  obtain ⟨k1, k2⟩ := bounds_i64 hw
  exact ⟨b, A, n3, c3, l, e, rfl, rfl, rfl, s1, k1, k2⟩
theorem open_iv {H : Type} {enc : TypeId × Value → H} {W : World} {r : Reach} {b0 base : Nat} {v : Value} {d : DataW H} {p : List MemPlace} (hv : Value.okWide Tryz.prog W r b0 28 v) (h : DataW.Trod enc Tryz.prog W base (fun _ => true) true 28 v d p) :
    ∃ b A n c l e b' A' n' c' l' e', v = .agg #[.bool b, .slice A n c, .int .i64 e, .bool b', .slice A' n' c', .int .i64 e'] ∧ (Sl W A n c l ∧ -9223372036854775808 ≤ e ∧ e ≤ 9223372036854775807) ∧ (Sl W A' n' c' l' ∧ -9223372036854775808 ≤ e' ∧ e' ≤ 9223372036854775807) := by
  obtain ⟨cs, rfl, hsz⟩ := okWide_struct Tryz.underlying28 hv
  obtain ⟨c0, c1, c2, c3, c4, c5, rfl⟩ := array6 (hsz.trans (show Tryz.prog.cellsOf 28 = 6 by kernel_rfl))
  obtain ⟨fuel, hf⟩ := h
  obtain ⟨y0, y1, n, _, _, h0, h1⟩ := trod_struct2 Tryz.underlying28 hf
  have e0 : Tryz.prog.cellsOf 26 = 3 := by kernel_rfl
  have h0' : DataW.trod enc Tryz.prog W base (fun _ => true) true n 26 [c0, c1, c2] = some y0 := by
    simpa [Value.cells, e0] using h0
  have h1' : DataW.trod enc Tryz.prog W base (fun _ => true) true n 26 [c3, c4, c5] = some y1 := by
    simpa [Value.cells, e0] using h1
  obtain ⟨b, A, n1, k, l, e, rfl, rfl, rfl, q1⟩ := open_dy3 h0'
  obtain ⟨b', A', n1', k', l', e', rfl, rfl, rfl, q2⟩ := open_dy3 h1'
  exact ⟨b, A, n1, k, l, e, b', A', n1', k', l', e', rfl, q1, q2⟩

end

end Go.Proofs.YtmlddkiccjpoeaaGreatDoor
