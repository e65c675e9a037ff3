/- The program's grid: the floor of a fraction. -/
import Derived.Test.YtgjljalcgiddgaaDoorGrPA
import Derived.Test.YtgjljalcgiddgaaDoorFloor
import Derived.Test.YtgjljalcgiddgaaDoorIntTwo
import Derived.Test.YtgjljalcgiddgaaDoorRefGrA
import Derived.Deep.RegionHeld3
import Derived.Deep.DrawnRows
import Derived.Deep.Cut
import Derived.Deep.CutRange
namespace Go.Proofs.YtgjljalcgiddgaaDoor
open Go.RowKit
set_option linter.unusedVariables false
set_option linter.unusedSimpArgs false
set_option maxRecDepth 100000
attribute [local go_sem ↓] Go.wp_at_zero Go.wp_at_succ

set_option maxHeartbeats 16000000 in
theorem gflR_any (a : Int) (d : Nat) (p : Int) (vx : Value) (w : World) (hx : IsP w vx a d) (la : zl a ≤ 2000) (ld : len d ≤ 2000) (hd : 0 < d) (hp : -9000 ≤ p ∧ p ≤ 9000) (hT : Tab w) :
    Calls Tryd.prog 67 #[vx, .int .i64 p] w (RetZ w (cutQ (Rat.divInt a d) p)) := by
  obtain ⟨A, c, B, g, rfl, hz, _, hn⟩ := hx.form
  by_cases q1 : p < 0
  · obtain ⟨k, hk⟩ : ∃ k : Nat, p = -(k : Int) := ⟨(-p).toNat, by omega⟩
    have L0 := (Lq.mk0 w).q hx
    have b1 : decide (p < 0) = true := decide_eq_true q1
    have hwk : IntKind.i64.wrap (-p) = (k : Int) := by rw [IntKind.wrap_i64]; omega
    have H1 := Lib.hid (fun v W h => pfloor_any a d v W h (by omega) (by omega) hd)
    have lz : zl (a / (d : Int)) ≤ zl a := by
      unfold zl
      exact len_mono (Int.natAbs_ediv_le_natAbs _ _)
    have h2 := fun v W h (hW : Below w.heap.size w W) => zshr_any (a / (d : Int)) v W h (by omega) k (by omega) (hT.mono hW)
    have hC : a / (d : Int) / 2 ^ k = cutQ (Rat.divInt a (d : Int)) p := by
      rw [hk, cut_down a d hd k, Int.ediv_ediv_of_nonneg (by omega)]
    rw [hC] at h2
    generalize cutQ (Rat.divInt a (d : Int)) p = C at *
    generalize a / (d : Int) = q at *
    have H2 := Lib.hid h2
    clear h2 hC lz hx hz hn la ld hd hp hT hk
    go_enter Tryd.func67, Tryd.ntmps67
    go_wp2_with fail
    have L := ((L0.varQ (w.heap.size) (by simp) (ng a) A B (zl a) c (len d) g).varZ (w.heap.size + 1) (by simp) false none 0 0)
    have c00 := L.b0.c20
    have f00 := L.b0.fr 0
    have c01 := L.b0.c21
    have f01 := L.b0.fr 1
    have c10 := L.tl.b0.c30
    have f10 := L.tl.b0.fr 0
    have c11 := L.tl.b0.c31
    have f11 := L.tl.b0.fr 1
    have c12 := L.tl.b0.c32
    have f12 := L.tl.b0.fr 2
    (try go_wp2_with fail)
    refine (H1.out _ _ (L.getQ (by simp))).mono ?_
    rintro e w1 ⟨v1, rfl, iz, be⟩
    clear c00 f00 c01 f01 c10 f10 c11 f11 c12 f12
    replace L := (L.step be).z iz
    clear be iz
    have c00 := L.b0.c20
    have f00 := L.b0.fr 0
    have c01 := L.b0.c21
    have f01 := L.b0.fr 1
    have c10 := L.tl.b0.c30
    have f10 := L.tl.b0.fr 0
    have c11 := L.tl.b0.c31
    have f11 := L.tl.b0.fr 1
    have c12 := L.tl.b0.c32
    have f12 := L.tl.b0.fr 2
    (try go_wp2_with fail)
    refine (H2.out _ _ L.hz L.below).mono ?_
    rintro e w2 ⟨v9, rfl, iz, be⟩
    clear c00 f00 c01 f01 c10 f10 c11 f11 c12 f12
    replace L := (L.step be).z iz
    obtain ⟨A9, c9, rfl, _⟩ := iz.form
    clear be iz
    have c00 := L.b0.c20
    have f00 := L.b0.fr 0
    have c01 := L.b0.c21
    have f01 := L.b0.fr 1
    have c10 := L.tl.b0.c30
    have f10 := L.tl.b0.fr 0
    have c11 := L.tl.b0.c31
    have f11 := L.tl.b0.fr 1
    have c12 := L.tl.b0.c32
    have f12 := L.tl.b0.fr 2
    (try go_wp2_with fail)
    have LP := L.putZ (by omega) (by first | (simp; done) | (simp; omega)) (ng C) A9 (zl C) c9
    have k0 := LP.b0.c20
    have k1 := LP.b0.c21
    unfold put2 at k0 k1
    exact bodyPost_ret (v := .agg #[.bool (ng C), .slice A9 (zl C) c9]) (by simp [results, Tryd.results67, go_sem, k0, k1]) rfl ⟨_, rfl, LP.hz, LP.below⟩
  · obtain ⟨k, rfl⟩ : ∃ k : Nat, p = (k : Int) := ⟨p.toNat, by omega⟩
    have b1 : decide ((k : Int) < 0) = false := decide_eq_false q1
    have lz := zl_two a k
    have H1 := Lib.hid (fun v W h => zshl_any a v W h (by omega) k (by omega))
    have hn0 := fun v W h => znatN_any false d v W h (by omega)
    rw [show sg false d = (d : Int) from rfl] at hn0
    have HN := Lib.hid hn0
    have ld' : zl (d : Int) ≤ 2000 := ld
    rw [cut_up a d hd k]
    obtain ⟨X, hX⟩ : ∃ X, a * 2 ^ k = X := ⟨_, rfl⟩
    rw [hX] at H1 lz ⊢
    have h2 := fun v u W k1 k2 => zdivmod_any X (d : Int) v u W k1 k2 (by omega) (by omega) (by omega)
    rw [Int.fdiv_eq_ediv_of_nonneg _ (by omega)] at h2
    generalize X / (d : Int) = C at *
    generalize X.fmod (d : Int) = R at *
    have H2 := Lib.hid h2
    have L0 := ((Lq.mk0 w).z hz).n hn
    clear h2 hn0 lz ld' hX la ld hd hp hT hx
    go_enter Tryd.func67, Tryd.ntmps67
    go_wp2_with fail
    have L := ((L0.varQ (w.heap.size) (by simp) (ng a) A B (zl a) c (len d) g).varZ (w.heap.size + 1) (by simp) false none 0 0)
    have c00 := L.b0.c20
    have f00 := L.b0.fr 0
    have c01 := L.b0.c21
    have f01 := L.b0.fr 1
    have c10 := L.tl.b0.c30
    have f10 := L.tl.b0.fr 0
    have c11 := L.tl.b0.c31
    have f11 := L.tl.b0.fr 1
    have c12 := L.tl.b0.c32
    have f12 := L.tl.b0.fr 2
    (try go_wp2_with fail)
    clear c00 f00 c01 f01 c10 f10 c11 f11 c12 f12
    obtain ⟨V, hV⟩ : ∃ V, (w.alloc (.cells #[.bool (ng a), .slice A (zl a) c, .slice B (len d) g] 40)).alloc (.cells #[.bool false, .slice none 0 0] 24) = V := ⟨_, rfl⟩
    rw [hV] at L ⊢
    clear hV
    have Q0 := Lib.hid (fun Z (hZ : Below V.heap.size V Z) => (L.tl.b0.mono hZ).c30)
    have Q1 := Lib.hid (fun Z (hZ : Below V.heap.size V Z) => (L.tl.b0.mono hZ).c31)
    have Q2 := Lib.hid (fun Z (hZ : Below V.heap.size V Z) => (L.tl.b0.mono hZ).c32)
    have hgx0 := L.tl.b0.lt
    have GZ := Lib.hid (fun Z (hZ : Below V.heap.size V Z) => (hz.mono L.below).mono hZ)
    have GN := Lib.hid (fun Z (hZ : Below V.heap.size V Z) => (hn.mono L.below).mono hZ)
    have D0 : Dq V V [] [] [] [] := ⟨Lq.mk0 V, List.nodup_nil, fun p hp => by cases hp⟩
    have LL := Lib.hid L
    clear L hz hn L0
    have D := D0.drew
    obtain ⟨m, hmw⟩ : ∃ m, V.heap.size = m := ⟨_, rfl⟩
    have hz0 : m ≤ V.heap.size := by omega
    have hgx : w.heap.size < m := by omega
    have hmd : V.drew.heap.size = m := hmw
    go_cut [5, 6, 7] from 15 to 27 (fun s5 s6 s7 wx => Made2Z V C R s5 s6 wx)
    case first =>
      go_region_held3 (fun w' => w'.cell? ⟨w.heap.size, 0, none⟩ = some (.bool (ng a)) ∧ w'.cell? ⟨w.heap.size, 1, none⟩ = some (.slice A (zl a) c) ∧ w'.cell? ⟨w.heap.size, 2, none⟩ = some (.slice B (len d) g)) (((try dsimp only); refine ⟨?_, ?_, ?_⟩ <;> (repeat (first | (with_reducible exact Q0.out _ D.lq.below) | (with_reducible exact Q0.out _ D0.lq.below) | (with_reducible exact Q1.out _ D.lq.below) | (with_reducible exact Q1.out _ D0.lq.below) | (with_reducible exact Q2.out _ D.lq.below) | (with_reducible exact Q2.out _ D0.lq.below) | (with_reducible refine c_alloc _ ?_) | (with_reducible refine c_drew ?_) | (with_reducible refine c_set ?_ hgx ?_) | omega)))) (first | (go_at_call 72; (with_reducible refine (H1.out _ _ ?_).mono ?_); (· (first | (with_reducible exact GZ.out _ D.lq.below) | (with_reducible exact GZ.out _ (D.boxZ false none 0 0).lq.below) | (with_reducible exact GZ.out _ (D.boxZ2 false none 0 0 false none 0 0).lq.below) | (with_reducible exact GZ.out _ (D0.boxZ false none 0 0).drew.lq.below) | (with_reducible exact GZ.out _ (D0.boxZ2 false none 0 0 false none 0 0).drew.lq.below))); rintro e9 wh ⟨vh, rfl, iz, be⟩; (first | (replace D := D.step be) | (replace D := (D.boxMZ hmd false none 0 0).step be) | (replace D := (D.boxMZ2 hmd false none 0 0 false none 0 0).step be) | (replace D := (D.boxZ false none 0 0).step be) | (replace D := (D.boxZ2 false none 0 0 false none 0 0).step be)); have hz := be.size; (try simp at hz); replace D := D.z iz; clear iz; (try (have q000 := D.lq.b0.c20; have q001 := D.lq.b0.c21; have q002 := D.lq.b0.fr 0; have q003 := D.lq.b0.fr 1)); (try (have q010 := (D.alloc (.cells #[.bool false, .slice none 0 0] 24)).lq.b0.c20; have q011 := (D.alloc (.cells #[.bool false, .slice none 0 0] 24)).lq.b0.c21; have q012 := (D.alloc (.cells #[.bool false, .slice none 0 0] 24)).lq.b0.fr 0; have q013 := (D.alloc (.cells #[.bool false, .slice none 0 0] 24)).lq.b0.fr 1)); (try (have q020 := ((D.alloc (.cells #[.bool false, .slice none 0 0] 24)).alloc (.cells #[.bool false, .slice none 0 0] 24)).lq.b0.c20; have q021 := ((D.alloc (.cells #[.bool false, .slice none 0 0] 24)).alloc (.cells #[.bool false, .slice none 0 0] 24)).lq.b0.c21; have q022 := ((D.alloc (.cells #[.bool false, .slice none 0 0] 24)).alloc (.cells #[.bool false, .slice none 0 0] 24)).lq.b0.fr 0; have q023 := ((D.alloc (.cells #[.bool false, .slice none 0 0] 24)).alloc (.cells #[.bool false, .slice none 0 0] 24)).lq.b0.fr 1)); (try (have q100 := D.lq.tl.b0.c20; have q101 := D.lq.tl.b0.c21; have q102 := D.lq.tl.b0.fr 0; have q103 := D.lq.tl.b0.fr 1)); (try (have q110 := (D.alloc (.cells #[.bool false, .slice none 0 0] 24)).lq.tl.b0.c20; have q111 := (D.alloc (.cells #[.bool false, .slice none 0 0] 24)).lq.tl.b0.c21; have q112 := (D.alloc (.cells #[.bool false, .slice none 0 0] 24)).lq.tl.b0.fr 0; have q113 := (D.alloc (.cells #[.bool false, .slice none 0 0] 24)).lq.tl.b0.fr 1)); (try (have q120 := ((D.alloc (.cells #[.bool false, .slice none 0 0] 24)).alloc (.cells #[.bool false, .slice none 0 0] 24)).lq.tl.b0.c20; have q121 := ((D.alloc (.cells #[.bool false, .slice none 0 0] 24)).alloc (.cells #[.bool false, .slice none 0 0] 24)).lq.tl.b0.c21; have q122 := ((D.alloc (.cells #[.bool false, .slice none 0 0] 24)).alloc (.cells #[.bool false, .slice none 0 0] 24)).lq.tl.b0.fr 0; have q123 := ((D.alloc (.cells #[.bool false, .slice none 0 0] 24)).alloc (.cells #[.bool false, .slice none 0 0] 24)).lq.tl.b0.fr 1)); (try obtain ⟨na, nb, nc, nd, nl⟩ := D.n0); (try obtain ⟨ne, nf, ng', nh, nm⟩ := D.n1); (try obtain ⟨ni, nj⟩ := D.n01)) | (go_at_call 73; (with_reducible refine (HN.out _ _ ?_).mono ?_); (· (first | (with_reducible exact GN.out _ D.lq.below) | (with_reducible exact GN.out _ (D.boxZ false none 0 0).lq.below) | (with_reducible exact GN.out _ (D.boxZ2 false none 0 0 false none 0 0).lq.below) | (with_reducible exact GN.out _ (D0.boxZ false none 0 0).drew.lq.below) | (with_reducible exact GN.out _ (D0.boxZ2 false none 0 0 false none 0 0).drew.lq.below))); rintro e9 wh ⟨vh, rfl, iz, be⟩; (first | (replace D := D.step be) | (replace D := (D.boxMZ hmd false none 0 0).step be) | (replace D := (D.boxMZ2 hmd false none 0 0 false none 0 0).step be) | (replace D := (D.boxZ false none 0 0).step be) | (replace D := (D.boxZ2 false none 0 0 false none 0 0).step be)); have hz := be.size; (try simp at hz); replace D := D.z iz; clear iz; (try (have q000 := D.lq.b0.c20; have q001 := D.lq.b0.c21; have q002 := D.lq.b0.fr 0; have q003 := D.lq.b0.fr 1)); (try (have q010 := (D.alloc (.cells #[.bool false, .slice none 0 0] 24)).lq.b0.c20; have q011 := (D.alloc (.cells #[.bool false, .slice none 0 0] 24)).lq.b0.c21; have q012 := (D.alloc (.cells #[.bool false, .slice none 0 0] 24)).lq.b0.fr 0; have q013 := (D.alloc (.cells #[.bool false, .slice none 0 0] 24)).lq.b0.fr 1)); (try (have q020 := ((D.alloc (.cells #[.bool false, .slice none 0 0] 24)).alloc (.cells #[.bool false, .slice none 0 0] 24)).lq.b0.c20; have q021 := ((D.alloc (.cells #[.bool false, .slice none 0 0] 24)).alloc (.cells #[.bool false, .slice none 0 0] 24)).lq.b0.c21; have q022 := ((D.alloc (.cells #[.bool false, .slice none 0 0] 24)).alloc (.cells #[.bool false, .slice none 0 0] 24)).lq.b0.fr 0; have q023 := ((D.alloc (.cells #[.bool false, .slice none 0 0] 24)).alloc (.cells #[.bool false, .slice none 0 0] 24)).lq.b0.fr 1)); (try (have q100 := D.lq.tl.b0.c20; have q101 := D.lq.tl.b0.c21; have q102 := D.lq.tl.b0.fr 0; have q103 := D.lq.tl.b0.fr 1)); (try (have q110 := (D.alloc (.cells #[.bool false, .slice none 0 0] 24)).lq.tl.b0.c20; have q111 := (D.alloc (.cells #[.bool false, .slice none 0 0] 24)).lq.tl.b0.c21; have q112 := (D.alloc (.cells #[.bool false, .slice none 0 0] 24)).lq.tl.b0.fr 0; have q113 := (D.alloc (.cells #[.bool false, .slice none 0 0] 24)).lq.tl.b0.fr 1)); (try (have q120 := ((D.alloc (.cells #[.bool false, .slice none 0 0] 24)).alloc (.cells #[.bool false, .slice none 0 0] 24)).lq.tl.b0.c20; have q121 := ((D.alloc (.cells #[.bool false, .slice none 0 0] 24)).alloc (.cells #[.bool false, .slice none 0 0] 24)).lq.tl.b0.c21; have q122 := ((D.alloc (.cells #[.bool false, .slice none 0 0] 24)).alloc (.cells #[.bool false, .slice none 0 0] 24)).lq.tl.b0.fr 0; have q123 := ((D.alloc (.cells #[.bool false, .slice none 0 0] 24)).alloc (.cells #[.bool false, .slice none 0 0] 24)).lq.tl.b0.fr 1)); (try obtain ⟨na, nb, nc, nd, nl⟩ := D.n0); (try obtain ⟨ne, nf, ng', nh, nm⟩ := D.n1); (try obtain ⟨ni, nj⟩ := D.n01)) | (go_at_call 94; (with_reducible refine (H2.out _ _ _ ?_ ?_).mono ?_); (· (first | (with_reducible refine D.getZ ?_; (repeat (first | (with_reducible exact List.mem_cons_self) | apply List.mem_cons_of_mem))) | (with_reducible refine (D.boxZ false none 0 0).getZ ?_; (repeat (first | (with_reducible exact List.mem_cons_self) | apply List.mem_cons_of_mem))) | (with_reducible refine (D.boxZ2 false none 0 0 false none 0 0).getZ ?_; (repeat (first | (with_reducible exact List.mem_cons_self) | apply List.mem_cons_of_mem))) | (with_reducible refine (D0.boxZ false none 0 0).drew.getZ ?_; (repeat (first | (with_reducible exact List.mem_cons_self) | apply List.mem_cons_of_mem))) | (with_reducible refine (D0.boxZ2 false none 0 0 false none 0 0).drew.getZ ?_; (repeat (first | (with_reducible exact List.mem_cons_self) | apply List.mem_cons_of_mem))))); (· (first | (with_reducible refine D.getZ ?_; (repeat (first | (with_reducible exact List.mem_cons_self) | apply List.mem_cons_of_mem))) | (with_reducible refine (D.boxZ false none 0 0).getZ ?_; (repeat (first | (with_reducible exact List.mem_cons_self) | apply List.mem_cons_of_mem))) | (with_reducible refine (D.boxZ2 false none 0 0 false none 0 0).getZ ?_; (repeat (first | (with_reducible exact List.mem_cons_self) | apply List.mem_cons_of_mem))) | (with_reducible refine (D0.boxZ false none 0 0).drew.getZ ?_; (repeat (first | (with_reducible exact List.mem_cons_self) | apply List.mem_cons_of_mem))) | (with_reducible refine (D0.boxZ2 false none 0 0 false none 0 0).drew.getZ ?_; (repeat (first | (with_reducible exact List.mem_cons_self) | apply List.mem_cons_of_mem))))); rintro e9 wh ⟨vq, vr, rfl, iz, iz2, be⟩; (first | (replace D := D.step be) | (replace D := (D.boxMZ hmd false none 0 0).step be) | (replace D := (D.boxMZ2 hmd false none 0 0 false none 0 0).step be) | (replace D := (D.boxZ false none 0 0).step be) | (replace D := (D.boxZ2 false none 0 0 false none 0 0).step be)); have hz := be.size; (try simp at hz); replace D := (D.z iz2).z iz; obtain ⟨A8, c8, rfl, _⟩ := iz.form; obtain ⟨A9, c9, rfl, _⟩ := iz2.form; clear iz iz2; (try (have q000 := D.lq.b0.c20; have q001 := D.lq.b0.c21; have q002 := D.lq.b0.fr 0; have q003 := D.lq.b0.fr 1)); (try (have q010 := (D.alloc (.cells #[.bool false, .slice none 0 0] 24)).lq.b0.c20; have q011 := (D.alloc (.cells #[.bool false, .slice none 0 0] 24)).lq.b0.c21; have q012 := (D.alloc (.cells #[.bool false, .slice none 0 0] 24)).lq.b0.fr 0; have q013 := (D.alloc (.cells #[.bool false, .slice none 0 0] 24)).lq.b0.fr 1)); (try (have q020 := ((D.alloc (.cells #[.bool false, .slice none 0 0] 24)).alloc (.cells #[.bool false, .slice none 0 0] 24)).lq.b0.c20; have q021 := ((D.alloc (.cells #[.bool false, .slice none 0 0] 24)).alloc (.cells #[.bool false, .slice none 0 0] 24)).lq.b0.c21; have q022 := ((D.alloc (.cells #[.bool false, .slice none 0 0] 24)).alloc (.cells #[.bool false, .slice none 0 0] 24)).lq.b0.fr 0; have q023 := ((D.alloc (.cells #[.bool false, .slice none 0 0] 24)).alloc (.cells #[.bool false, .slice none 0 0] 24)).lq.b0.fr 1)); (try (have q100 := D.lq.tl.b0.c20; have q101 := D.lq.tl.b0.c21; have q102 := D.lq.tl.b0.fr 0; have q103 := D.lq.tl.b0.fr 1)); (try (have q110 := (D.alloc (.cells #[.bool false, .slice none 0 0] 24)).lq.tl.b0.c20; have q111 := (D.alloc (.cells #[.bool false, .slice none 0 0] 24)).lq.tl.b0.c21; have q112 := (D.alloc (.cells #[.bool false, .slice none 0 0] 24)).lq.tl.b0.fr 0; have q113 := (D.alloc (.cells #[.bool false, .slice none 0 0] 24)).lq.tl.b0.fr 1)); (try (have q120 := ((D.alloc (.cells #[.bool false, .slice none 0 0] 24)).alloc (.cells #[.bool false, .slice none 0 0] 24)).lq.tl.b0.c20; have q121 := ((D.alloc (.cells #[.bool false, .slice none 0 0] 24)).alloc (.cells #[.bool false, .slice none 0 0] 24)).lq.tl.b0.c21; have q122 := ((D.alloc (.cells #[.bool false, .slice none 0 0] 24)).alloc (.cells #[.bool false, .slice none 0 0] 24)).lq.tl.b0.fr 0; have q123 := ((D.alloc (.cells #[.bool false, .slice none 0 0] 24)).alloc (.cells #[.bool false, .slice none 0 0] 24)).lq.tl.b0.fr 1)); (try obtain ⟨na, nb, nc, nd, nl⟩ := D.n0); (try obtain ⟨ne, nf, ng', nh, nm⟩ := D.n1); (try obtain ⟨ni, nj⟩ := D.n01)))
      all_goals
        go_wp2_with fail
        go_meet
        first
        | ((with_reducible refine made2z_a D ?_ ?_) <;> (repeat (first | (with_reducible exact List.mem_cons_self) | apply List.mem_cons_of_mem)))
        | ((with_reducible refine made2z_b D ?_ ?_) <;> (repeat (first | (with_reducible exact List.mem_cons_self) | apply List.mem_cons_of_mem)))
        | ((with_reducible refine made2z_c D ?_ ?_) <;> (repeat (first | (with_reducible exact List.mem_cons_self) | apply List.mem_cons_of_mem)))
        | ((with_reducible refine made2z_d D ?_ ?_) <;> (repeat (first | (with_reducible exact List.mem_cons_self) | apply List.mem_cons_of_mem)))
        | ((with_reducible refine made2z_e D ?_ ?_) <;> (repeat (first | (with_reducible exact List.mem_cons_self) | apply List.mem_cons_of_mem)))
        | ((with_reducible refine made2z_f D ?_ ?_) <;> (repeat (first | (with_reducible exact List.mem_cons_self) | apply List.mem_cons_of_mem)))
    case rest =>
      obtain ⟨g1, g2, A1, c1, A2, c2, rfl, rfl, hg1, hg2, hg3, bw, hb1, hb2, hz1, hz2⟩ := hcut
      have hg4 := LL.out.b0.lt
      have L := (((LL.out.step bw).b hb2).b hb1).z hz1
      clear D D0 hmd hz0 hgx Q0 Q1 Q2 GZ GN LL HN H1 H2 hb1 hb2 hz1 hz2 bw
      have e5 : w.heap.size + 1 ≠ g1 := by omega
      have e6 : w.heap.size + 1 ≠ g2 := by omega
      generalize wc = wd at *
      replace L := L.pull2
      have c00 := L.b0.c20
      have f00 := L.b0.fr 0
      have c01 := L.b0.c21
      have f01 := L.b0.fr 1
      have c10 := L.tl.b0.c20
      have c11 := L.tl.b0.c21
      have c20 := L.tl.tl.b0.c20
      have c21 := L.tl.tl.b0.c21
      have c30 := L.tl.tl.tl.b0.c30
      have c31 := L.tl.tl.tl.b0.c31
      have c32 := L.tl.tl.tl.b0.c32
      (try go_wp2_with fail)
      have LP := L.putZ (by omega) (by simp [e5, e6, Ne.symm e5, Ne.symm e6]) (ng C) A1 (zl C) c1
      have k0 := LP.b0.c20
      have k1 := LP.b0.c21
      unfold put2 at k0 k1
      exact bodyPost_ret (v := .agg #[.bool (ng C), .slice A1 (zl C) c1]) (by simp [results, Tryd.results67, go_sem, k0, k1]) rfl ⟨_, rfl, LP.getZ (by simp), LP.below⟩

end Go.Proofs.YtgjljalcgiddgaaDoor
