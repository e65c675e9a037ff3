/- Floor of fractions: the program's and the reference's. -/
import Derived.Test.YtbndgggjfjdfbabGreatDoorRatP
import Derived.Test.YtbndgggjfjdfbabGreatDoorRatWaysZ
import Derived.Test.YtbndgggjfjdfbabGreatDoorRefDivMod
import Derived.Test.YtbndgggjfjdfbabGreatDoorBaseI
import Derived.Deep.RegionHeld3
import Derived.Deep.DrawnRows
import Derived.Deep.Cut
import Derived.Deep.CutRange
namespace Go.Proofs.YtbndgggjfjdfbabGreatDoor
open Go.RowKit
set_option linter.unusedVariables false
set_option linter.unusedSimpArgs false
set_option maxRecDepth 100000
attribute [local go_sem ↓] Go.wp_at_zero Go.wp_at_succ

set_option maxHeartbeats 1000000 in
theorem pfloor_any (a : Int) (d : Nat) (vx : Value) (w : World) (hx : IsP w vx a d) (la : zl a ≤ 1000000) (ld : len d ≤ 1000000) (hd0 : 0 < d) :
    Calls Tryz.prog 8 #[vx] w (RetZ w (a / (d : Int))) := by
  obtain ⟨A, c, B, g, rfl, hz, _, hd⟩ := hx.form
  have hzd := isZ_nat hd
  have ld' : zl (d : Int) ≤ 1000000 := ld
  have h1 := fun v u W k1 k2 => zdivmod_any a (d : Int) v u W k1 k2 (by omega) (by omega) (by omega)
  rw [Int.fdiv_eq_ediv_of_nonneg _ (by omega)] at h1
  have H1 := Lib.hid h1
  clear h1
  have L0 := ((Lq.mk0 w).z hz).z hzd
  generalize a / (d : Int) = q at *
  generalize a.fmod (d : Int) = r at *
  clear hx hz hd hzd la ld ld' hd0
  go_enter Tryz.func8, Tryz.ntmps8
  go_wp2_with fail
  have L := ((L0.varQ (w.heap.size) (by simp) (ng a) A B (zl a) c (len d) g).varZ (w.heap.size + 1) (by simp) false none 0 0)
  have c00 := L.b0.c20
  have f00 := L.b0.fr 0
  have c01 := L.b0.c21
  have f01 := L.b0.fr 1
  have c10 := L.tl.b0.c30
  have c11 := L.tl.b0.c31
  have c12 := L.tl.b0.c32
  refine (H1.out _ _ _ (L.getZ (by simp)) (L.getZ (by simp))).mono ?_
  rintro e w1 ⟨v1, v2, rfl, i1, i2, be⟩
  clear c00 f00 c01 f01 c10 c11 c12
  replace L := ((L.step be).z i2).z i1
  obtain ⟨A1, c1, rfl, _⟩ := i1.form
  obtain ⟨A2, c2, rfl, _⟩ := i2.form
  clear be i1 i2
  have hl := L.b0.lt
  replace L := (L.varZ w1.heap.size rfl (ng q) A1 (zl q) c1).varZ (w1.heap.size + 1) (by simp) (ng r) A2 (zl r) c2
  have c00 := L.b0.c20
  have f00 := L.b0.fr 0
  have c01 := L.b0.c21
  have f01 := L.b0.fr 1
  have c10 := L.tl.b0.c20
  have f10 := L.tl.b0.fr 0
  have c11 := L.tl.b0.c21
  have f11 := L.tl.b0.fr 1
  have c20 := L.tl.tl.b0.c20
  have f20 := L.tl.tl.b0.fr 0
  have c21 := L.tl.tl.b0.c21
  have f21 := L.tl.tl.b0.fr 1
  have c30 := L.tl.tl.tl.b0.c30
  have c31 := L.tl.tl.tl.b0.c31
  have c32 := L.tl.tl.tl.b0.c32
  go_wp2_with fail
  clear c00 f00 c01 f01 c10 f10 c11 f11 c20 f20 c21 f21 c30 c31 c32
  have LP := L.pull2.putZ (by omega) (by first | (simp; done) | (simp; omega)) (ng q) A1 (zl q) c1
  have k0 := LP.b0.c20
  have k1 := LP.b0.c21
  unfold put2 at k0 k1
  exact bodyPost_ret (v := .agg #[.bool (ng q), .slice A1 (zl q) c1]) (by simp [results, Tryz.results8, go_sem, k0, k1]) rfl ⟨_, rfl, LP.getZ (by simp), LP.below⟩
set_option maxHeartbeats 4000000 in
theorem rfloor7_any (a : Int) (d : Nat) (vx : Value) (w : World) (hx : IsP w vx a d) (la : zl a ≤ 1000000) (ld : len d ≤ 1000000) (hd0 : 0 < d) :
    Calls Tryz.prog 12 #[vx] w (RetZ w (a / (d : Int))) := by
  obtain ⟨A, c, B, g, rfl, hz, _, _⟩ := hx.form
  have ld' : zl (d : Int) ≤ 1000000 := ld
  have H1 := Lib.hid (fun v W k1 => rden_any a d v W k1 (by omega))
  have H2 := Lib.hid (fun v u W k1 k2 => rzdivmod_pos a (d : Int) v u W k1 k2 (by omega) (by omega) (by omega))
  generalize a / (d : Int) = q at *
  generalize a % (d : Int) = r at *
  clear la ld ld' hd0
  go_enter Tryz.func12, Tryz.ntmps12
  go_wp2_with fail
  have L := (((Lq.mk0 w).varQ (w.heap.size) (by simp) (ng a) A B (zl a) c (len d) g).varZ (w.heap.size + 1) (by simp) false none 0 0)
  obtain ⟨V, hV⟩ : ∃ V, (w.alloc (.cells #[.bool (ng a), .slice A (zl a) c, .slice B (len d) g] 26)).alloc (.cells #[.bool false, .slice none 0 0] 24) = V := ⟨_, rfl⟩
  rw [hV] at L ⊢
  clear hV
  have hgm0 := L.b0.lt
  have Q0 := Lib.hid (fun Z (hZ : Below V.heap.size V Z) => (L.tl.b0.mono hZ).c30)
  have Q1 := Lib.hid (fun Z (hZ : Below V.heap.size V Z) => (L.tl.b0.mono hZ).c31)
  have Q2 := Lib.hid (fun Z (hZ : Below V.heap.size V Z) => (L.tl.b0.mono hZ).c32)
  have GX := Lib.hid (fun Z (hZ : Below V.heap.size V Z) => (hx.mono L.below).mono hZ)
  have GZ := Lib.hid (hz.mono L.below)
  have LL := Lib.hid L
  have D0 : Dz V V [] [(.agg #[.bool (ng a), .slice A (zl a) c], a)] [] := Dz.z (⟨Lz.mk0 V, List.nodup_nil, fun p hp => by cases hp⟩ : Dz V V [] [] []) GZ.out
  clear L GZ hx hz
  have D := D0.drew
  obtain ⟨m, hmw⟩ : ∃ m, V.heap.size = m := ⟨_, rfl⟩
  have hz0 : m ≤ V.heap.size := by omega
  have hgx : w.heap.size < m := by omega
  have hmd : V.drew.heap.size = m := hmw
  go_cut [3, 4] from 6 to 14 (fun s3 s4 wx => Made2 V q r s3 s4 wx)
  case first =>
    go_region_held3 (fun w' => w'.cell? ⟨w.heap.size, 0, none⟩ = some (.bool (ng a)) ∧ w'.cell? ⟨w.heap.size, 1, none⟩ = some (.slice A (zl a) c) ∧ w'.cell? ⟨w.heap.size, 2, none⟩ = some (.slice B (len d) g)) (((try dsimp only); refine ⟨?_, ?_, ?_⟩ <;> (repeat (first | (with_reducible exact Q0.out _ D.lz.below) | (with_reducible exact Q0.out _ D0.lz.below) | (with_reducible exact Q1.out _ D.lz.below) | (with_reducible exact Q1.out _ D0.lz.below) | (with_reducible exact Q2.out _ D.lz.below) | (with_reducible exact Q2.out _ D0.lz.below) | (with_reducible refine c_alloc _ ?_) | (with_reducible refine c_drew ?_) | (with_reducible refine c_set ?_ hgx ?_) | omega)))) (first | (go_at_call 40; (with_reducible refine (H1.out _ _ ?_).mono ?_); (· (first | (with_reducible exact GX.out _ D.lz.below) | (with_reducible exact GX.out _ (D.box false none 0 0).lz.below) | (with_reducible exact GX.out _ (D.box2 false false none none 0 0 0 0).lz.below) | (with_reducible exact GX.out _ (D0.box false none 0 0).drew.lz.below) | (with_reducible exact GX.out _ (D0.box2 false false none none 0 0 0 0).drew.lz.below))); rintro e wh ⟨vh, rfl, iz, be⟩; (first | (replace D := D.step be) | (replace D := (D.boxM hmd false none 0 0).step be) | (replace D := (D.boxM2 hmd false false none none 0 0 0 0).step be) | (replace D := (D.box false none 0 0).step be) | (replace D := (D.box2 false false none none 0 0 0 0).step be)); have hz := be.size; (try simp at hz); replace D := D.z iz; (try (have q000 := D.lz.b0.c0; have q001 := D.lz.b0.c1; have q002 := D.lz.b0.fr 0; have q003 := D.lz.b0.fr 1)); (try (have q010 := (D.alloc (.cells #[.bool false, .slice none 0 0] 24)).lz.b0.c0; have q011 := (D.alloc (.cells #[.bool false, .slice none 0 0] 24)).lz.b0.c1; have q012 := (D.alloc (.cells #[.bool false, .slice none 0 0] 24)).lz.b0.fr 0; have q013 := (D.alloc (.cells #[.bool false, .slice none 0 0] 24)).lz.b0.fr 1)); (try (have q020 := ((D.alloc (.cells #[.bool false, .slice none 0 0] 24)).alloc (.cells #[.bool false, .slice none 0 0] 24)).lz.b0.c0; have q021 := ((D.alloc (.cells #[.bool false, .slice none 0 0] 24)).alloc (.cells #[.bool false, .slice none 0 0] 24)).lz.b0.c1; have q022 := ((D.alloc (.cells #[.bool false, .slice none 0 0] 24)).alloc (.cells #[.bool false, .slice none 0 0] 24)).lz.b0.fr 0; have q023 := ((D.alloc (.cells #[.bool false, .slice none 0 0] 24)).alloc (.cells #[.bool false, .slice none 0 0] 24)).lz.b0.fr 1)); (try (have q100 := D.lz.tl.b0.c0; have q101 := D.lz.tl.b0.c1; have q102 := D.lz.tl.b0.fr 0; have q103 := D.lz.tl.b0.fr 1)); (try (have q110 := (D.alloc (.cells #[.bool false, .slice none 0 0] 24)).lz.tl.b0.c0; have q111 := (D.alloc (.cells #[.bool false, .slice none 0 0] 24)).lz.tl.b0.c1; have q112 := (D.alloc (.cells #[.bool false, .slice none 0 0] 24)).lz.tl.b0.fr 0; have q113 := (D.alloc (.cells #[.bool false, .slice none 0 0] 24)).lz.tl.b0.fr 1)); (try (have q120 := ((D.alloc (.cells #[.bool false, .slice none 0 0] 24)).alloc (.cells #[.bool false, .slice none 0 0] 24)).lz.tl.b0.c0; have q121 := ((D.alloc (.cells #[.bool false, .slice none 0 0] 24)).alloc (.cells #[.bool false, .slice none 0 0] 24)).lz.tl.b0.c1; have q122 := ((D.alloc (.cells #[.bool false, .slice none 0 0] 24)).alloc (.cells #[.bool false, .slice none 0 0] 24)).lz.tl.b0.fr 0; have q123 := ((D.alloc (.cells #[.bool false, .slice none 0 0] 24)).alloc (.cells #[.bool false, .slice none 0 0] 24)).lz.tl.b0.fr 1)); (try obtain ⟨na, nb, nc, nd, nl⟩ := D.n0); (try obtain ⟨ne, nf, ng', nh, nm⟩ := D.n1); (try obtain ⟨ni, nj⟩ := D.n01)) | (go_at_call 39; (with_reducible refine (H2.out _ _ _ ?_ ?_).mono ?_); (· (first | (with_reducible refine D.getZ ?_; (repeat (first | (with_reducible exact List.mem_cons_self) | apply List.mem_cons_of_mem))) | (with_reducible refine (D.box false none 0 0).getZ ?_; (repeat (first | (with_reducible exact List.mem_cons_self) | apply List.mem_cons_of_mem))) | (with_reducible refine (D.box2 false false none none 0 0 0 0).getZ ?_; (repeat (first | (with_reducible exact List.mem_cons_self) | apply List.mem_cons_of_mem))) | (with_reducible refine (D0.box false none 0 0).drew.getZ ?_; (repeat (first | (with_reducible exact List.mem_cons_self) | apply List.mem_cons_of_mem))) | (with_reducible refine (D0.box2 false false none none 0 0 0 0).drew.getZ ?_; (repeat (first | (with_reducible exact List.mem_cons_self) | apply List.mem_cons_of_mem))))); (· (first | (with_reducible refine D.getZ ?_; (repeat (first | (with_reducible exact List.mem_cons_self) | apply List.mem_cons_of_mem))) | (with_reducible refine (D.box false none 0 0).getZ ?_; (repeat (first | (with_reducible exact List.mem_cons_self) | apply List.mem_cons_of_mem))) | (with_reducible refine (D.box2 false false none none 0 0 0 0).getZ ?_; (repeat (first | (with_reducible exact List.mem_cons_self) | apply List.mem_cons_of_mem))) | (with_reducible refine (D0.box false none 0 0).drew.getZ ?_; (repeat (first | (with_reducible exact List.mem_cons_self) | apply List.mem_cons_of_mem))) | (with_reducible refine (D0.box2 false false none none 0 0 0 0).drew.getZ ?_; (repeat (first | (with_reducible exact List.mem_cons_self) | apply List.mem_cons_of_mem))))); rintro e wh ⟨vq, vr, rfl, iz, iz2, be⟩; (first | (replace D := D.step be) | (replace D := (D.boxM hmd false none 0 0).step be) | (replace D := (D.boxM2 hmd false false none none 0 0 0 0).step be) | (replace D := (D.box false none 0 0).step be) | (replace D := (D.box2 false false none none 0 0 0 0).step be)); have hz := be.size; (try simp at hz); replace D := (D.z iz2).z iz; obtain ⟨A8, c8, rfl, _⟩ := iz.form; obtain ⟨A9, c9, rfl, _⟩ := iz2.form; (try (have q000 := D.lz.b0.c0; have q001 := D.lz.b0.c1; have q002 := D.lz.b0.fr 0; have q003 := D.lz.b0.fr 1)); (try (have q010 := (D.alloc (.cells #[.bool false, .slice none 0 0] 24)).lz.b0.c0; have q011 := (D.alloc (.cells #[.bool false, .slice none 0 0] 24)).lz.b0.c1; have q012 := (D.alloc (.cells #[.bool false, .slice none 0 0] 24)).lz.b0.fr 0; have q013 := (D.alloc (.cells #[.bool false, .slice none 0 0] 24)).lz.b0.fr 1)); (try (have q020 := ((D.alloc (.cells #[.bool false, .slice none 0 0] 24)).alloc (.cells #[.bool false, .slice none 0 0] 24)).lz.b0.c0; have q021 := ((D.alloc (.cells #[.bool false, .slice none 0 0] 24)).alloc (.cells #[.bool false, .slice none 0 0] 24)).lz.b0.c1; have q022 := ((D.alloc (.cells #[.bool false, .slice none 0 0] 24)).alloc (.cells #[.bool false, .slice none 0 0] 24)).lz.b0.fr 0; have q023 := ((D.alloc (.cells #[.bool false, .slice none 0 0] 24)).alloc (.cells #[.bool false, .slice none 0 0] 24)).lz.b0.fr 1)); (try (have q100 := D.lz.tl.b0.c0; have q101 := D.lz.tl.b0.c1; have q102 := D.lz.tl.b0.fr 0; have q103 := D.lz.tl.b0.fr 1)); (try (have q110 := (D.alloc (.cells #[.bool false, .slice none 0 0] 24)).lz.tl.b0.c0; have q111 := (D.alloc (.cells #[.bool false, .slice none 0 0] 24)).lz.tl.b0.c1; have q112 := (D.alloc (.cells #[.bool false, .slice none 0 0] 24)).lz.tl.b0.fr 0; have q113 := (D.alloc (.cells #[.bool false, .slice none 0 0] 24)).lz.tl.b0.fr 1)); (try (have q120 := ((D.alloc (.cells #[.bool false, .slice none 0 0] 24)).alloc (.cells #[.bool false, .slice none 0 0] 24)).lz.tl.b0.c0; have q121 := ((D.alloc (.cells #[.bool false, .slice none 0 0] 24)).alloc (.cells #[.bool false, .slice none 0 0] 24)).lz.tl.b0.c1; have q122 := ((D.alloc (.cells #[.bool false, .slice none 0 0] 24)).alloc (.cells #[.bool false, .slice none 0 0] 24)).lz.tl.b0.fr 0; have q123 := ((D.alloc (.cells #[.bool false, .slice none 0 0] 24)).alloc (.cells #[.bool false, .slice none 0 0] 24)).lz.tl.b0.fr 1)); (try obtain ⟨na, nb, nc, nd, nl⟩ := D.n0); (try obtain ⟨ne, nf, ng', nh, nm⟩ := D.n1); (try obtain ⟨ni, nj⟩ := D.n01)))
    all_goals
      go_wp2_with fail
      go_meet
      first
      | ((with_reducible refine made_a D ?_ ?_) <;> (repeat (first | (with_reducible exact List.mem_cons_self) | apply List.mem_cons_of_mem)))
      | ((with_reducible refine made_b D ?_ ?_) <;> (repeat (first | (with_reducible exact List.mem_cons_self) | apply List.mem_cons_of_mem)))
      | ((with_reducible refine made_c D ?_ ?_) <;> (repeat (first | (with_reducible exact List.mem_cons_self) | apply List.mem_cons_of_mem)))
      | ((with_reducible refine made_d D ?_ ?_) <;> (repeat (first | (with_reducible exact List.mem_cons_self) | apply List.mem_cons_of_mem)))
      | ((with_reducible refine made_e D ?_ ?_) <;> (repeat (first | (with_reducible exact List.mem_cons_self) | apply List.mem_cons_of_mem)))
      | ((with_reducible refine made_f D ?_ ?_) <;> (repeat (first | (with_reducible exact List.mem_cons_self) | apply List.mem_cons_of_mem)))
  case rest =>
    obtain ⟨g1, g2, A1, c1, A2, c2, rfl, rfl, bw, hb1, hb2, hz1, hz2⟩ := hcut
    have L := (LL.out.step bw).z hz1
    clear D D0 hmd hz0 hgx Q0 Q1 Q2 GX LL H1 H2 hb2 hz2 hz1 bw
    generalize wc = wd at *
    have c00 := L.b0.c20
    have c01 := L.b0.c21
    have f00 := L.b0.fr 0
    have f01 := L.b0.fr 1
    have x0 := hb1.c0
    have x1 := hb1.c1
    clear hb1
    go_wp2_with fail
    have LP := L.putZ (by omega) (by first | (simp; done) | (simp; omega)) (ng q) A1 (zl q) c1
    have k0 := LP.b0.c20
    have k1 := LP.b0.c21
    unfold put2 at k0 k1
    exact bodyPost_ret (v := .agg #[.bool (ng q), .slice A1 (zl q) c1]) (by simp [results, Tryz.results12, go_sem, k0, k1]) rfl ⟨_, rfl, LP.hz, LP.below⟩

end Go.Proofs.YtbndgggjfjdfbabGreatDoor
