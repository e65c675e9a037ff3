/- The sanity check of layer 12: the examples of chapter 12 hold. -/
import Derived.Test.YthfabjpbdgieoaaGreatDoorRdTZ
import Derived.Test.YthfabjpbdgieoaaGreatDoorBaseWZ
import Derived.Test.YthfabjpbdgieoaaGreatDoorBaseE
import Derived.Deep.RegionHeld3
import Derived.Deep.DrawnRows
namespace Go.Proofs.YthfabjpbdgieoaaGreatDoor
open Go.RowKit
set_option linter.unusedVariables false
set_option linter.unusedSimpArgs false
set_option maxRecDepth 100000
attribute [local go_sem ↓] Go.wp_at_zero Go.wp_at_succ

set_option maxHeartbeats 16000000 in
theorem awake12_any (w : World) (hT : Tab w) :
    Calls Tryz.prog 8 #[] w (RetB w true) := by
  have o22 := fun W => of12_any (2) (2) W (by omega) (by omega)
  rw [of_2.1, of_2.2] at o22
  have O22 := Lib.hid o22
  clear o22
  have ob1 := fun W => of12_any (-1) (1) W (by omega) (by omega)
  rw [of_m1.1, of_m1.2, of_1.1, of_1.2] at ob1
  have Ob1 := Lib.hid ob1
  clear ob1
  have oca := fun W => of12_any (-2) (-1) W (by omega) (by omega)
  rw [of_m2.1, of_m2.2, of_m1.1, of_m1.2] at oca
  have Oca := Lib.hid oca
  clear oca
  have oa2 := fun W => of12_any (-1) (2) W (by omega) (by omega)
  rw [of_m1.1, of_m1.2, of_2.1, of_2.2] at oa2
  have Oa2 := Lib.hid oa2
  clear oa2
  have o04 := fun W => of12_any (0) (4) W (by omega) (by omega)
  rw [of_0.1, of_0.2, of_4.1, of_4.2] at o04
  have O04 := Lib.hid o04
  clear o04
  have z1 : zl 1 ≤ 6 := zl_small (by decide)
  have z0 := zl0
  have z3 : zl 3 ≤ 6 := zl_small (by decide)
  have zm : zl (-1) ≤ 1 := len_le1 (by decide)
  have z1' : zl 1 ≤ 1 := len_le1 (by decide)
  have hT9 := Lib.hid (fun W (hW : Below w.heap.size w W) => hT.mono hW)
  have v1 : Dv 1 0 := Or.inr ⟨by decide, by decide⟩
  have v2 : Dv 1 1 := Or.inr ⟨by decide, by decide⟩
  have v3 : Dv (-1) 0 := Or.inr ⟨by decide, by decide⟩
  have v4 : Dv (-1) 1 := Or.inr ⟨by decide, by decide⟩
  have s1 := fun v W h (hW : Below w.heap.size w W) => dsqrt_any 1 1 1 1 1 v W h (by omega) (by omega) (by omega) (by omega) v2 v2 (by omega) (by omega) (hT9.out W hW)
  simp only [ex_sqrt] at s1
  have s2 := fun v W h (hW : Below w.heap.size w W) => dsqrt_any (-1) 0 1 0 1 v W h (by omega) (by omega) (by omega) (by omega) v3 v1 (by omega) (by omega) (hT9.out W hW)
  simp only [ex_unknown] at s2
  have s3 := fun v W h (hW : Below w.heap.size w W) => dsqrt_any (-1) 1 (-1) 0 1 v W h (by omega) (by omega) (by omega) (by omega) v4 v3 (by omega) (by omega) (hT9.out W hW)
  simp only [ex_domain] at s3
  have hd4 : dcm (-1) 0 1 1 ≤ 0 := by decide
  have s4 := fun v W h (hW : Below w.heap.size w W) => dpw_any (-1) 0 1 1 2 0 v W h (by omega) (by omega) (by omega) (by omega) v3 v2 hd4 (fun h => ⟨pb_small (by omega) (by omega) h, pb_small (by omega) (by omega) h⟩) (by omega) (by omega) (small_of (by omega) (by omega) (by omega) (by omega) hd4) (hT9.out W hW)
  simp only [ex_power] at s4
  have g3 := fun W => (show Calls Tryz.prog 37 #[.int .i64 3] W (RetZ W 3) from rzof_any 3 W (by omega) (by omega))
  have gm := fun v W h => rmake8_any 3 (-1) v W h (by omega)
  rw [mk_3h.1, mk_3h.2, show mkR 3 (-1) = 0 from mk_fits (by omega) (by omega) (by omega)] at gm
  have g1 := fun W => rof8_any 1 W (by omega) (by omega)
  rw [of_1.1, of_1.2] at g1
  have sm := (fun v u W h1 h2 => (show Calls Tryz.prog 19 #[v, u] W (RetB W true) from by have s := r10same_any 1 0 3 (-1) 1 0 3 (-1) v u W h1 h2 (by omega) (by omega) (by omega) (by omega) (by omega) (by omega) (by omega) (by omega); rwa [show ((decide ((0 : Int) = 0) && decide ((1 : Int) = 1)) && (decide (((-1) : Int) = (-1)) && decide ((3 : Int) = 3))) = true from by simp] at s))
  have sp := (fun v u W h1 h2 => (show Calls Tryz.prog 19 #[v, u] W (RetB W true) from by have s := r10same_any 0 0 1 2 0 0 1 2 v u W h1 h2 (by omega) (by omega) (by omega) (by omega) (by omega) (by omega) (by omega) (by omega); rwa [show ((decide ((0 : Int) = 0) && decide ((0 : Int) = 0)) && (decide ((2 : Int) = 2) && decide ((1 : Int) = 1))) = true from by simp] at s))
  have S1 := Lib.hid s1
  have S2 := Lib.hid s2
  have S3 := Lib.hid s3
  have S4 := Lib.hid s4
  have G3 := Lib.hid g3
  have GM := Lib.hid gm
  have G1 := Lib.hid g1
  have SM := Lib.hid sm
  have SP := Lib.hid sp
  clear s1 s2 s3 s4 g3 gm g1 sm sp z0 z1 z1' z3 zm v1 v2 v3 v4 hd4 hT hT9
  go_enter Tryz.func8, Tryz.ntmps8
  go_wp2_with fail
  have L := Lq.mk0 w
  (try go_wp2_with fail)
  refine (O22.out _).mono ?_
  rintro e w1 ⟨v11, rfl, ii, be⟩
  obtain ⟨A11, c11, B11, d11, rfl, ia, ib⟩ := ii.form
  replace L := ((L.step be).n ia).n ib
  clear ii be ia ib
  (try go_wp2_with fail)
  refine (S1.out _ _ (isI_n (m := 1) (e := 1) (n := 1) (f := 1) (s := .slice A11 (zl 1) c11) (t := .slice B11 (zl 1) d11) (L.getN (by simp)) (L.getN (by simp))) L.below).mono ?_
  rintro e w2 ⟨vv, rfl, ii, be⟩
  obtain ⟨A1, c1, B1, d1, rfl, ia, ib⟩ := ii.form
  replace L := ((L.step be).n ib).n ia
  clear be ii ia ib
  replace L := L.varI w2.heap.size rfl (ng 1) A1 (zl 1) c1 0 (ng 3) B1 (zl 3) d1 (-1)
  have cel00 := L.b0.c60
  have cel01 := L.b0.c61
  have cel02 := L.b0.c62
  have cel03 := L.b0.c63
  have cel04 := L.b0.c64
  have cel05 := L.b0.c65
  go_wp2_with fail
  obtain ⟨g1, hg⟩ : ∃ g, w2.heap.size = g := ⟨_, rfl⟩
  rw [hg] at L  cel00 cel01 cel02 cel03 cel04 cel05 ⊢
  clear hg
  refine (Ob1.out _).mono ?_
  rintro e w3 ⟨v12, rfl, ii, be⟩
  clear cel00 cel01 cel02 cel03 cel04 cel05
  obtain ⟨A12, c12, B12, d12, rfl, ia, ib⟩ := ii.form
  replace L := ((L.step be).n ia).n ib
  clear ii be ia ib
  (try go_wp2_with fail)
  refine (S2.out _ _ (isI_n (m := (-1)) (e := 0) (n := 1) (f := 0) (s := .slice A12 (zl (-1)) c12) (t := .slice B12 (zl 1) d12) (L.getN (by simp)) (L.getN (by simp))) L.below).mono ?_
  rintro e w4 ⟨vv, rfl, ii, be⟩
  obtain ⟨A2, c2, B2, d2, rfl, ia, ib⟩ := ii.form
  replace L := ((L.step be).n ib).n ia
  clear be ii ia ib
  have hlg20 := L.b0.lt
  replace L := L.varI w4.heap.size rfl (ng 0) A2 (zl 0) c2 0 (ng 0) B2 (zl 0) d2 0
  have cel00 := L.b0.c60
  have cel01 := L.b0.c61
  have cel02 := L.b0.c62
  have cel03 := L.b0.c63
  have cel04 := L.b0.c64
  have cel05 := L.b0.c65
  go_wp2_with fail
  obtain ⟨g2, hg⟩ : ∃ g, w4.heap.size = g := ⟨_, rfl⟩
  rw [hg] at L hlg20 cel00 cel01 cel02 cel03 cel04 cel05 ⊢
  clear hg
  refine (Oca.out _).mono ?_
  rintro e w5 ⟨v13, rfl, ii, be⟩
  clear cel00 cel01 cel02 cel03 cel04 cel05
  obtain ⟨A13, c13, B13, d13, rfl, ia, ib⟩ := ii.form
  replace L := ((L.step be).n ia).n ib
  clear ii be ia ib
  (try go_wp2_with fail)
  refine (S3.out _ _ (isI_n (m := (-1)) (e := 1) (n := (-1)) (f := 0) (s := .slice A13 (zl (-1)) c13) (t := .slice B13 (zl (-1)) d13) (L.getN (by simp)) (L.getN (by simp))) L.below).mono ?_
  rintro e w6 ⟨vv, rfl, ii, be⟩
  obtain ⟨A3, c3, B3, d3, rfl, ia, ib⟩ := ii.form
  replace L := ((L.step be).n ib).n ia
  clear be ii ia ib
  have hlg30 := L.b0.lt
  replace L := L.varI w6.heap.size rfl (ng 0) A3 (zl 0) c3 0 (ng 0) B3 (zl 0) d3 0
  have cel00 := L.b0.c60
  have cel01 := L.b0.c61
  have cel02 := L.b0.c62
  have cel03 := L.b0.c63
  have cel04 := L.b0.c64
  have cel05 := L.b0.c65
  go_wp2_with fail
  obtain ⟨g3, hg⟩ : ∃ g, w6.heap.size = g := ⟨_, rfl⟩
  rw [hg] at L hlg30 cel00 cel01 cel02 cel03 cel04 cel05 ⊢
  clear hg
  refine (Oa2.out _).mono ?_
  rintro e w7 ⟨v14, rfl, ii, be⟩
  clear cel00 cel01 cel02 cel03 cel04 cel05
  obtain ⟨A14, c14, B14, d14, rfl, ia, ib⟩ := ii.form
  replace L := ((L.step be).n ia).n ib
  clear ii be ia ib
  (try go_wp2_with fail)
  refine (S4.out _ _ (isI_n (m := (-1)) (e := 0) (n := 1) (f := 1) (s := .slice A14 (zl (-1)) c14) (t := .slice B14 (zl 1) d14) (L.getN (by simp)) (L.getN (by simp))) L.below).mono ?_
  rintro e w8 ⟨vv, rfl, ii, be⟩
  obtain ⟨A4, c4, B4, d4, rfl, ia, ib⟩ := ii.form
  replace L := ((L.step be).n ib).n ia
  clear be ii ia ib
  have hlg40 := L.b0.lt
  replace L := L.varI w8.heap.size rfl (ng 0) A4 (zl 0) c4 0 (ng 1) B4 (zl 1) d4 2
  have cel00 := L.b0.c60
  have cel01 := L.b0.c61
  have cel02 := L.b0.c62
  have cel03 := L.b0.c63
  have cel04 := L.b0.c64
  have cel05 := L.b0.c65
  go_wp2_with fail
  obtain ⟨g4, hg⟩ : ∃ g, w8.heap.size = g := ⟨_, rfl⟩
  rw [hg] at L hlg40 cel00 cel01 cel02 cel03 cel04 cel05 ⊢
  clear hg
  clear cel00 cel01 cel02 cel03 cel04 cel05
  refine (G3.out _).mono ?_
  rintro e w9 ⟨vz, rfl, iz, be⟩
  replace L := (L.step be).z iz
  clear be iz
  (try go_wp2_with fail)
  refine (GM.out _ _ (L.getZ (by simp))).mono ?_
  rintro e w10 ⟨vd, rfl, id, be⟩
  obtain ⟨A5, c5, rfl, _, in9⟩ := id.form
  replace L := (L.step be).n in9
  clear be id in9
  have hlg5 := L.b0.lt
  replace L := L.varD w10.heap.size rfl (ng 3) A5 (zl 3) c5 (-1)
  have cel00 := L.b0.c30
  have cel01 := L.b0.c31
  have cel02 := L.b0.c32
  have cel10 := L.tl.b0.c60
  have cel11 := L.tl.b0.c61
  have cel12 := L.tl.b0.c62
  have cel13 := L.tl.b0.c63
  have cel14 := L.tl.b0.c64
  have cel15 := L.tl.b0.c65
  have cel40 := L.tl.tl.tl.tl.b0.c60
  have cel41 := L.tl.tl.tl.tl.b0.c61
  have cel42 := L.tl.tl.tl.tl.b0.c62
  have cel43 := L.tl.tl.tl.tl.b0.c63
  have cel44 := L.tl.tl.tl.tl.b0.c64
  have cel45 := L.tl.tl.tl.tl.b0.c65
  (try go_wp2_with fail)
  obtain ⟨g5, hg⟩ : ∃ g, w10.heap.size = g := ⟨_, rfl⟩
  rw [hg] at L hlg5 cel00 cel01 cel02 ⊢
  clear hg
  clear cel00 cel01 cel02 cel10 cel11 cel12 cel13 cel14 cel15 cel40 cel41 cel42 cel43 cel44 cel45
  replace L := L.drew
  have cel00 := L.b0.c30
  have cel01 := L.b0.c31
  have cel02 := L.b0.c32
  have cel10 := L.tl.b0.c60
  have cel11 := L.tl.b0.c61
  have cel12 := L.tl.b0.c62
  have cel13 := L.tl.b0.c63
  have cel14 := L.tl.b0.c64
  have cel15 := L.tl.b0.c65
  have cel40 := L.tl.tl.tl.tl.b0.c60
  have cel41 := L.tl.tl.tl.tl.b0.c61
  have cel42 := L.tl.tl.tl.tl.b0.c62
  have cel43 := L.tl.tl.tl.tl.b0.c63
  have cel44 := L.tl.tl.tl.tl.b0.c64
  have cel45 := L.tl.tl.tl.tl.b0.c65
  go_region_held3 (fun w' => w'.cell? ⟨g5, 0, none⟩ = some (.bool (ng 3)) ∧ w'.cell? ⟨g5, 1, none⟩ = some (.slice A5 (zl 3) c5) ∧ w'.cell? ⟨g5, 2, none⟩ = some (.int .i64 (-1)) ∧ w'.cell? ⟨g4, 0, none⟩ = some (.bool (ng 0)) ∧ w'.cell? ⟨g4, 1, none⟩ = some (.slice A4 (zl 0) c4) ∧ w'.cell? ⟨g4, 2, none⟩ = some (.int .i64 0) ∧ w'.cell? ⟨g4, 3, none⟩ = some (.bool (ng 1)) ∧ w'.cell? ⟨g4, 4, none⟩ = some (.slice B4 (zl 1) d4) ∧ w'.cell? ⟨g4, 5, none⟩ = some (.int .i64 2) ∧ w'.cell? ⟨g1, 0, none⟩ = some (.bool (ng 1)) ∧ w'.cell? ⟨g1, 1, none⟩ = some (.slice A1 (zl 1) c1) ∧ w'.cell? ⟨g1, 2, none⟩ = some (.int .i64 0) ∧ w'.cell? ⟨g1, 3, none⟩ = some (.bool (ng 3)) ∧ w'.cell? ⟨g1, 4, none⟩ = some (.slice B1 (zl 3) d1) ∧ w'.cell? ⟨g1, 5, none⟩ = some (.int .i64 (-1))) (first | (with_reducible exact ⟨L.b0.c30, L.b0.c31, L.b0.c32, L.tl.b0.c60, L.tl.b0.c61, L.tl.b0.c62, L.tl.b0.c63, L.tl.b0.c64, L.tl.b0.c65, L.tl.tl.tl.tl.b0.c60, L.tl.tl.tl.tl.b0.c61, L.tl.tl.tl.tl.b0.c62, L.tl.tl.tl.tl.b0.c63, L.tl.tl.tl.tl.b0.c64, L.tl.tl.tl.tl.b0.c65⟩) | exact ⟨L.b0.c30, L.b0.c31, L.b0.c32, L.tl.b0.c60, L.tl.b0.c61, L.tl.b0.c62, L.tl.b0.c63, L.tl.b0.c64, L.tl.b0.c65, L.tl.tl.tl.tl.b0.c60, L.tl.tl.tl.tl.b0.c61, L.tl.tl.tl.tl.b0.c62, L.tl.tl.tl.tl.b0.c63, L.tl.tl.tl.tl.b0.c64, L.tl.tl.tl.tl.b0.c65⟩) (first | (go_at_call 38; (with_reducible refine (G1.out _ ).mono ?_); rintro e wh ⟨vh, rfl, id, be⟩; obtain ⟨A8, c8, rfl, _, in9⟩ := id.form; replace L := (L.step be).n in9; clear be id in9) | (go_at_call 19; (with_reducible refine (SM.out _ _ _ ?_ ?_ ).mono ?_); (· (refine isI_n (L.getN ?_) (L.getN ?_) <;> (repeat (first | (with_reducible exact List.mem_cons_self) | apply List.mem_cons_of_mem)))); (· (refine isI_n (L.getN ?_) (L.getN ?_) <;> (repeat (first | (with_reducible exact List.mem_cons_self) | apply List.mem_cons_of_mem)))); rintro e wh ⟨rfl, be⟩; replace L := L.step be; clear be) | (go_at_call 19; (with_reducible refine (SP.out _ _ _ ?_ ?_ ).mono ?_); (· (refine isI_n (L.getN ?_) (L.getN ?_) <;> (repeat (first | (with_reducible exact List.mem_cons_self) | apply List.mem_cons_of_mem)))); (· (refine isI_n (L.getN ?_) (L.getN ?_) <;> (repeat (first | (with_reducible exact List.mem_cons_self) | apply List.mem_cons_of_mem)))); rintro e wh ⟨rfl, be⟩; replace L := L.step be; clear be) | (go_at_call 29; (with_reducible refine (O04.out _ ).mono ?_); rintro e wh ⟨vh, rfl, ii, be⟩; obtain ⟨A9, c9, B9, d9, rfl, ia, ib⟩ := ii.form; replace L := ((L.step be).n ib).n ia; clear be ii ia ib))
  clear cel00 cel01 cel02 cel10 cel11 cel12 cel13 cel14 cel15 cel40 cel41 cel42 cel43 cel44 cel45
  go_wp2_with fail
  go_ret
  exact ⟨rfl, L.below⟩

end Go.Proofs.YthfabjpbdgieoaaGreatDoor
