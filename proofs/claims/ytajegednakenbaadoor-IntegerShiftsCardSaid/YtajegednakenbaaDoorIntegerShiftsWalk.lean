/- The walk of IntegerShifts: whatever the input, the law returns true and turns nothing that was there. -/
import Derived.Test.YtajegednakenbaaDoorAwake5
import Derived.Test.YtajegednakenbaaDoorIntWays
import Derived.Test.YtajegednakenbaaDoorRefIntC
import Derived.Deep.Cut
import Derived.Deep.CutRange
import Derived.Deep.RegionHeld3
import Derived.Deep.DrawnRows
namespace Go.Proofs.YtajegednakenbaaDoor
open Go.RowKit
set_option linter.unusedVariables false
set_option linter.unusedSimpArgs false
attribute [local go_sem ↓] Go.wp_at_zero Go.wp_at_succ

set_option maxHeartbeats 4000000 in
theorem walk_IntegerShifts (b0 : Bool) (a0 : Option Addr) (len0 cap0 : Nat) (z0 : List Nat) (a1 : Int) (w : World) (h0 : Sl w a0 len0 cap0 z0) (hb : -9223372036854775808 ≤ a1 ∧ a1 ≤ 9223372036854775807) (hT : Tab w) :
    Calls Tryd.prog 8 #[.agg #[.bool b0, .slice a0 len0 cap0], .int .i64 a1] w (fun e w' => e = .returned (.bool true) ∧ Below w.heap.size w w') := by
  go_enter Tryd.func8, Tryd.ntmps8
  go_wp2_with fail
  have L := ((Lz.mk0 w).box (w.heap.size) (by simp) b0 a0 len0 cap0)
  refine (awake5_any _ (hT.mono L.below)).mono ?_
  rintro e w1 ⟨rfl, be⟩
  replace L := L.step be
  clear be
  have c00 := L.b0.c0
  have c01 := L.b0.c1
  go_wp2_with fail
  refine (millZ_any b0 z0 40 a0 len0 cap0 _ (h0.mono L.below) (by omega)).mono ?_
  rintro e w2 ⟨vx, ok, x, rfl, ix, lx, be⟩
  clear c00 c01
  replace L := (L.step be).z ix
  obtain ⟨A, c, rfl, _⟩ := ix.form
  clear be ix
  have hgw := L.below.size
  replace L := L.box w2.heap.size rfl (ng x) A (zl x) c
  cases ok
  · go_wp2_with fail
    go_ret
    exact ⟨rfl, L.below⟩
  · have hm1 := Int.emod_nonneg a1 (show (2000 : Int) ≠ 0 by omega)
    have hm2 := Int.emod_lt_of_pos a1 (show (0 : Int) < 2000 by omega)
    have hm3 := Int.emod_nonneg a1 (show (40 : Int) ≠ 0 by omega)
    have hm4 := Int.emod_lt_of_pos a1 (show (0 : Int) < 40 by omega)
    have HM1 := fun W => mod_any a1 2000 W (by omega) (by omega) hb.1 hb.2
    have HM2 := fun W => mod_any a1 40 W (by omega) (by omega) hb.1 hb.2
    obtain ⟨k0, hk0⟩ : ∃ k : Nat, a1 % 2000 = (k : Int) := ⟨(a1 % 2000).toNat, by omega⟩
    obtain ⟨k1, hk1⟩ : ∃ k : Nat, a1 % 40 = (k : Int) := ⟨(a1 % 40).toNat, by omega⟩
    rw [hk0] at HM1 hm1 hm2
    rw [hk1] at HM2 hm3 hm4
    have HA := Lib.hid HM1
    have HB := Lib.hid HM2
    have hk0b : k0 < 2000 := by omega
    have hk1b : k1 < 2000 := by omega
    clear HM1 HM2 hk0 hk1 hm1 hm2 hm3 hm4 hb
    go_wp2_with fail
    obtain ⟨g, hg⟩ : ∃ g, w2.heap.size = g := ⟨_, rfl⟩
    rw [hg] at L hgw ⊢
    generalize w2.alloc (.cells #[.bool (ng x), .slice A (zl x) c] 24) = wy at *
    clear hg
    refine (HA.out _).mono ?_
    rintro e w' ⟨rfl, rfl⟩
    go_wp2_with fail
    refine (HB.out _).mono ?_
    rintro e w' ⟨rfl, rfl⟩
    go_wp2_with fail
    have D0 : Dz w wy [] [(.agg #[.bool (ng x), .slice A (zl x) c], x)] [(g, ng x, .slice A (zl x) c)] := ⟨⟨L.below, fun p hp => L.ns p hp, fun p hp => L.zs p hp, fun p hp => L.bs p (by simp only [List.mem_singleton] at hp; subst hp; exact List.mem_cons_self ..)⟩, by simp, fun p hp => by simp only [List.mem_singleton] at hp; subst hp; exact hgw⟩
    have D2 := D0.alloc (.cells #[.int .i64 (k0 : Int), .int .i64 (k1 : Int)] 3)
    have hc0 : (wy.alloc (.cells #[.int .i64 (k0 : Int), .int .i64 (k1 : Int)] 3)).cell? ⟨wy.heap.size, 0, none⟩ = some (.int .i64 (k0 : Int)) := by simp
    have hc1 : (wy.alloc (.cells #[.int .i64 (k0 : Int), .int .i64 (k1 : Int)] 3)).cell? ⟨wy.heap.size, 1, none⟩ = some (.int .i64 (k1 : Int)) := by simp
    have hgs : wy.heap.size < (wy.alloc (.cells #[.int .i64 (k0 : Int), .int .i64 (k1 : Int)] 3)).heap.size := by simp
    have T := Lib.hid hT
    generalize wy.alloc (.cells #[.int .i64 (k0 : Int), .int .i64 (k1 : Int)] 3) = wb at *
    generalize wy.heap.size = gl at *
    clear L D0 hT h0 HA HB
    go_loopw [29] (fun i wr => ∃ j : Nat, i = .int .i64 j ∧ j ≤ 2 ∧ Below wb.heap.size wb wr) (fun i _ => 2 - (intOf i).toNat)
    case atStart => exact ⟨0, rfl, by omega, Below.refl _ _⟩
    case round =>
      obtain ⟨j, rfl, hj, B⟩ := hrel
      have D := D2.step B
      rcases Nat.eq_or_lt_of_le hj with rfl | hjl
      · go_wp2_with fail
        go_ret
        exact ⟨rfl, D.lz.below⟩
      · have hk : ∃ k : Nat, wr.cell? ⟨gl, j, none⟩ = some (.int .i64 (k : Int)) ∧ k < 2000 := by
          rcases (show j = 0 ∨ j = 1 by omega) with rfl | rfl
          · exact ⟨k0, (B.cell (p := ⟨gl, 0, none⟩) hgs).trans hc0, hk0b⟩
          · exact ⟨k1, (B.cell (p := ⟨gl, 1, none⟩) hgs).trans hc1, hk1b⟩
        obtain ⟨k, hck, hkb⟩ := hk
        have hjb : decide ((j : Int) < 2) = true := decide_eq_true (by omega)
        clear hc0 hc1
        have HS1 := Lib.hid (fun vx W h => zshl_any x vx W h (by omega) k (by omega))
        have HS2 := Lib.hid (fun vx W h h2 => zshr_any x vx W h (by omega) k (by omega) h2)
        obtain ⟨u, hu⟩ : ∃ u, x * 2 ^ k = u := ⟨_, rfl⟩
        obtain ⟨d, hd⟩ : ∃ d, x / 2 ^ k = d := ⟨_, rfl⟩
        rw [hu] at HS1
        rw [hd] at HS2
        have T2 := Lib.hid (T.out.mono (D.lz.below))
        have hwx : x * 2 ^ k = u ∧ x / 2 ^ k = d := ⟨hu, hd⟩
        have HW := Lib.hid hwx
        clear hu hd hwx
        have hgr := (D.lz.b0).lt
        have HX := Lib.hid D.lz.b0
        have HZ := Lib.hid (D.getZ (v := .agg #[.bool (ng x), .slice A (zl x) c]) (x := x) (by simp))
        have Dw := Lib.hid D
        clear D
        go_wp2_with fail
        have D0 := Dz.z (⟨Lz.mk0 wr, List.nodup_nil, fun p hp => by cases hp⟩ : Dz wr wr [] [] []) (HZ.out)
        have BB0 : Bs wr [(g, ng x, .slice A (zl x) c)] := fun p hp => by simp only [List.mem_singleton] at hp; subst hp; exact HX.out
        have D := D0.drew
        have BB := BB0.drew
        obtain ⟨m, hmw⟩ : ∃ m, wr.heap.size = m := ⟨_, rfl⟩
        have hz0 : m ≤ wr.heap.size := by omega
        have hg_g : g < m := by omega
        have hmd : wr.drew.heap.size = m := hmw
        go_cut [9, 10] from 33 to 38 (fun s9 s10 wx => Made2 wr u d s9 s10 wx)
        case first =>
          go_region_held3 (fun w' => w'.cell? ⟨g, 0, none⟩ = some (.bool (ng x)) ∧ w'.cell? ⟨g, 1, none⟩ = some (.slice A (zl x) c)) (((try dsimp only); refine ⟨?_, ?_⟩ <;> (repeat (first | (with_reducible exact BB.b0.c0) | (with_reducible exact BB.b0.c1) | (with_reducible exact BB0.b0.c0) | (with_reducible exact BB0.b0.c1) | (with_reducible refine c_alloc _ ?_) | (with_reducible refine c_drew ?_) | (with_reducible refine c_set ?_ hg_g ?_) | omega)))) (first | (go_at_call 36; (with_reducible refine (HS1.out _ _ ?_).mono ?_); (· (first | (with_reducible refine D.getZ ?_; (repeat (first | (with_reducible exact List.mem_cons_self) | apply List.mem_cons_of_mem))) | (with_reducible refine (D.box false none 0 0).getZ ?_; (repeat (first | (with_reducible exact List.mem_cons_self) | apply List.mem_cons_of_mem))) | (with_reducible refine (D.box2 false false none none 0 0 0 0).getZ ?_; (repeat (first | (with_reducible exact List.mem_cons_self) | apply List.mem_cons_of_mem))) | (with_reducible refine (D0.box false none 0 0).drew.getZ ?_; (repeat (first | (with_reducible exact List.mem_cons_self) | apply List.mem_cons_of_mem))) | (with_reducible refine (D0.box2 false false none none 0 0 0 0).drew.getZ ?_; (repeat (first | (with_reducible exact List.mem_cons_self) | apply List.mem_cons_of_mem))))); rintro e w1 ⟨vh, rfl, iz, be⟩; (first | (replace D := D.step be; replace BB := BB.step be) | (replace D := (D.boxM hmd false none 0 0).step be; replace BB := (BB.alloc _).step be) | (replace D := (D.boxM2 hmd false false none none 0 0 0 0).step be; replace BB := ((BB.alloc _).alloc _).step be) | (replace D := (D.box false none 0 0).step be; replace BB := (BB.alloc _).step be) | (replace D := (D.box2 false false none none 0 0 0 0).step be; replace BB := ((BB.alloc _).alloc _).step be)); have hz := be.size; (try simp at hz); replace D := D.z iz; obtain ⟨A1, c1, rfl, _⟩ := iz.form; clear iz be; (try (have q000 := D.lz.b0.c0; have q001 := D.lz.b0.c1; have q002 := D.lz.b0.fr 0; have q003 := D.lz.b0.fr 1)); (try (have q010 := (D.alloc (.cells #[.bool false, .slice none 0 0] 24)).lz.b0.c0; have q011 := (D.alloc (.cells #[.bool false, .slice none 0 0] 24)).lz.b0.c1; have q012 := (D.alloc (.cells #[.bool false, .slice none 0 0] 24)).lz.b0.fr 0; have q013 := (D.alloc (.cells #[.bool false, .slice none 0 0] 24)).lz.b0.fr 1)); (try (have q020 := ((D.alloc (.cells #[.bool false, .slice none 0 0] 24)).alloc (.cells #[.bool false, .slice none 0 0] 24)).lz.b0.c0; have q021 := ((D.alloc (.cells #[.bool false, .slice none 0 0] 24)).alloc (.cells #[.bool false, .slice none 0 0] 24)).lz.b0.c1; have q022 := ((D.alloc (.cells #[.bool false, .slice none 0 0] 24)).alloc (.cells #[.bool false, .slice none 0 0] 24)).lz.b0.fr 0; have q023 := ((D.alloc (.cells #[.bool false, .slice none 0 0] 24)).alloc (.cells #[.bool false, .slice none 0 0] 24)).lz.b0.fr 1)); (try (have q100 := D.lz.tl.b0.c0; have q101 := D.lz.tl.b0.c1; have q102 := D.lz.tl.b0.fr 0; have q103 := D.lz.tl.b0.fr 1)); (try (have q110 := (D.alloc (.cells #[.bool false, .slice none 0 0] 24)).lz.tl.b0.c0; have q111 := (D.alloc (.cells #[.bool false, .slice none 0 0] 24)).lz.tl.b0.c1; have q112 := (D.alloc (.cells #[.bool false, .slice none 0 0] 24)).lz.tl.b0.fr 0; have q113 := (D.alloc (.cells #[.bool false, .slice none 0 0] 24)).lz.tl.b0.fr 1)); (try (have q120 := ((D.alloc (.cells #[.bool false, .slice none 0 0] 24)).alloc (.cells #[.bool false, .slice none 0 0] 24)).lz.tl.b0.c0; have q121 := ((D.alloc (.cells #[.bool false, .slice none 0 0] 24)).alloc (.cells #[.bool false, .slice none 0 0] 24)).lz.tl.b0.c1; have q122 := ((D.alloc (.cells #[.bool false, .slice none 0 0] 24)).alloc (.cells #[.bool false, .slice none 0 0] 24)).lz.tl.b0.fr 0; have q123 := ((D.alloc (.cells #[.bool false, .slice none 0 0] 24)).alloc (.cells #[.bool false, .slice none 0 0] 24)).lz.tl.b0.fr 1)); (try obtain ⟨na, nb, nc, nd, nl⟩ := D.n0); (try obtain ⟨ne, nf, ng', nh, nm⟩ := D.n1); (try obtain ⟨ni, nj⟩ := D.n01)) | (go_at_call 37; (with_reducible refine (HS2.out _ _ ?_ ?_).mono ?_); (· (first | (with_reducible refine D.getZ ?_; (repeat (first | (with_reducible exact List.mem_cons_self) | apply List.mem_cons_of_mem))) | (with_reducible refine (D.box false none 0 0).getZ ?_; (repeat (first | (with_reducible exact List.mem_cons_self) | apply List.mem_cons_of_mem))) | (with_reducible refine (D.box2 false false none none 0 0 0 0).getZ ?_; (repeat (first | (with_reducible exact List.mem_cons_self) | apply List.mem_cons_of_mem))) | (with_reducible refine (D0.box false none 0 0).drew.getZ ?_; (repeat (first | (with_reducible exact List.mem_cons_self) | apply List.mem_cons_of_mem))) | (with_reducible refine (D0.box2 false false none none 0 0 0 0).drew.getZ ?_; (repeat (first | (with_reducible exact List.mem_cons_self) | apply List.mem_cons_of_mem))))); (· (first | (with_reducible exact T2.out.mono D.lz.below) | (with_reducible exact T2.out.mono (D.box false none 0 0).lz.below) | (with_reducible exact T2.out.mono (D.box2 false false none none 0 0 0 0).lz.below) | (with_reducible exact T2.out.mono (D0.box false none 0 0).drew.lz.below) | (with_reducible exact T2.out.mono (D0.box2 false false none none 0 0 0 0).drew.lz.below))); rintro e w2 ⟨vh, rfl, iz, be⟩; (first | (replace D := D.step be; replace BB := BB.step be) | (replace D := (D.boxM hmd false none 0 0).step be; replace BB := (BB.alloc _).step be) | (replace D := (D.boxM2 hmd false false none none 0 0 0 0).step be; replace BB := ((BB.alloc _).alloc _).step be) | (replace D := (D.box false none 0 0).step be; replace BB := (BB.alloc _).step be) | (replace D := (D.box2 false false none none 0 0 0 0).step be; replace BB := ((BB.alloc _).alloc _).step be)); have hz := be.size; (try simp at hz); replace D := D.z iz; obtain ⟨A2, c2, rfl, _⟩ := iz.form; clear iz be; (try (have q000 := D.lz.b0.c0; have q001 := D.lz.b0.c1; have q002 := D.lz.b0.fr 0; have q003 := D.lz.b0.fr 1)); (try (have q010 := (D.alloc (.cells #[.bool false, .slice none 0 0] 24)).lz.b0.c0; have q011 := (D.alloc (.cells #[.bool false, .slice none 0 0] 24)).lz.b0.c1; have q012 := (D.alloc (.cells #[.bool false, .slice none 0 0] 24)).lz.b0.fr 0; have q013 := (D.alloc (.cells #[.bool false, .slice none 0 0] 24)).lz.b0.fr 1)); (try (have q020 := ((D.alloc (.cells #[.bool false, .slice none 0 0] 24)).alloc (.cells #[.bool false, .slice none 0 0] 24)).lz.b0.c0; have q021 := ((D.alloc (.cells #[.bool false, .slice none 0 0] 24)).alloc (.cells #[.bool false, .slice none 0 0] 24)).lz.b0.c1; have q022 := ((D.alloc (.cells #[.bool false, .slice none 0 0] 24)).alloc (.cells #[.bool false, .slice none 0 0] 24)).lz.b0.fr 0; have q023 := ((D.alloc (.cells #[.bool false, .slice none 0 0] 24)).alloc (.cells #[.bool false, .slice none 0 0] 24)).lz.b0.fr 1)); (try (have q100 := D.lz.tl.b0.c0; have q101 := D.lz.tl.b0.c1; have q102 := D.lz.tl.b0.fr 0; have q103 := D.lz.tl.b0.fr 1)); (try (have q110 := (D.alloc (.cells #[.bool false, .slice none 0 0] 24)).lz.tl.b0.c0; have q111 := (D.alloc (.cells #[.bool false, .slice none 0 0] 24)).lz.tl.b0.c1; have q112 := (D.alloc (.cells #[.bool false, .slice none 0 0] 24)).lz.tl.b0.fr 0; have q113 := (D.alloc (.cells #[.bool false, .slice none 0 0] 24)).lz.tl.b0.fr 1)); (try (have q120 := ((D.alloc (.cells #[.bool false, .slice none 0 0] 24)).alloc (.cells #[.bool false, .slice none 0 0] 24)).lz.tl.b0.c0; have q121 := ((D.alloc (.cells #[.bool false, .slice none 0 0] 24)).alloc (.cells #[.bool false, .slice none 0 0] 24)).lz.tl.b0.c1; have q122 := ((D.alloc (.cells #[.bool false, .slice none 0 0] 24)).alloc (.cells #[.bool false, .slice none 0 0] 24)).lz.tl.b0.fr 0; have q123 := ((D.alloc (.cells #[.bool false, .slice none 0 0] 24)).alloc (.cells #[.bool false, .slice none 0 0] 24)).lz.tl.b0.fr 1)); (try obtain ⟨na, nb, nc, nd, nl⟩ := D.n0); (try obtain ⟨ne, nf, ng', nh, nm⟩ := D.n1); (try obtain ⟨ni, nj⟩ := D.n01)))
          all_goals
            go_wp2_with fail
            go_meet
            first
            | ((with_reducible refine made_a D ?_ ?_) <;> (repeat (first | (with_reducible exact List.mem_cons_self) | apply List.mem_cons_of_mem)))
            | ((with_reducible refine made_b D ?_ ?_) <;> (repeat (first | (with_reducible exact List.mem_cons_self) | apply List.mem_cons_of_mem)))
            | ((with_reducible refine made_c D ?_ ?_) <;> (repeat (first | (with_reducible exact List.mem_cons_self) | apply List.mem_cons_of_mem)))
            | ((with_reducible refine made_d D ?_ ?_) <;> (repeat (first | (with_reducible exact List.mem_cons_self) | apply List.mem_cons_of_mem)))
            | ((with_reducible refine made_e D ?_ ?_) <;> (repeat (first | (with_reducible exact List.mem_cons_self) | apply List.mem_cons_of_mem)))
            | ((with_reducible refine made_f D ?_ ?_) <;> (repeat (first | (with_reducible exact List.mem_cons_self) | apply List.mem_cons_of_mem)))
        case rest =>
          obtain ⟨g1, g2, A1, c1, A2, c2, rfl, rfl, bw, hb1, hb2, hz1, hz2⟩ := hcut
          clear D D0 BB BB0 hmw hz0 hmd hg_g hgr
          generalize wc = wd at *
          have HY := Lib.hid (HX.out.mono bw)
          have HV := Lib.hid (HZ.out.mono bw)
          have lu : zl u ≤ 100000 := by
            have := zl_shl x k
            rw [HW.out.1] at this
            omega
          have ld : zl d ≤ 100000 := by
            have := zl_shr x k
            rw [HW.out.2] at this
            omega
          have l11 : zl 1 ≤ 1 := len_le1 (show 1 < 4294967296 by omega)
          have lp := zl_shl 1 k
          have HO := Lib.hid (fun W => zof_any 1 W (by omega) (by omega))
          have HP := Lib.hid (fun vx W h => zshl_any 1 vx W h (by omega) k (by omega))
          have hpos : (0 : Int) < 1 * 2 ^ k := by rw [Int.one_mul]; exact_mod_cast Nat.pow_pos (n := k) (show 0 < 2 by omega)
          have hqd : x.fdiv (1 * 2 ^ k) = d := by rw [floor_pos hpos, Int.one_mul]; exact HW.out.2
          have hqq := fun vx vy W h1 h2 => zdivmod_any x (1 * 2 ^ k) vx vy W h1 h2 (by omega) (by omega) (by omega)
          rw [hqd] at hqq
          have HQ := Lib.hid hqq
          obtain ⟨p, hp⟩ : ∃ p, (1 : Int) * 2 ^ k = p := ⟨_, rfl⟩
          obtain ⟨r, hr⟩ : ∃ r, x.fmod (1 * 2 ^ k) = r := ⟨_, rfl⟩
          rw [hr] at HQ
          rw [hp] at HQ HP
          clear hr hp hpos hqd hqq lp l11
          have hgr := HY.out.lt
          have HB1 := Lib.hid hb1
          have HB2 := Lib.hid hb2
          have HZ1 := Lib.hid hz1
          have HZ2 := Lib.hid hz2
          have BW := Lib.hid bw
          clear hb1 hb2 hz1 hz2 bw
          go_wp2_with fail
          have D0 := Dz.z (⟨Lz.mk0 wd, List.nodup_nil, fun p hp => by cases hp⟩ : Dz wd wd [] [] []) (HV.out)
          have BB0 : Bs wd [(g, ng x, .slice A (zl x) c)] := fun p hp => by simp only [List.mem_singleton] at hp; subst hp; exact HY.out
          have D := D0.drew
          have BB := BB0.drew
          obtain ⟨m, hmw⟩ : ∃ m, wd.heap.size = m := ⟨_, rfl⟩
          have hz0 : m ≤ wd.heap.size := by omega
          have hg_g : g < m := by omega
          have hmd : wd.drew.heap.size = m := hmw
          go_cut [11, 12, 13] from 39 to 47 (fun s11 s12 s13 wx => Made2 wd d r s11 s12 wx ∧ s13 = .bool true)
          case first =>
            go_region_held3 (fun w' => w'.cell? ⟨g, 0, none⟩ = some (.bool (ng x)) ∧ w'.cell? ⟨g, 1, none⟩ = some (.slice A (zl x) c)) (((try dsimp only); refine ⟨?_, ?_⟩ <;> (repeat (first | (with_reducible exact BB.b0.c0) | (with_reducible exact BB.b0.c1) | (with_reducible exact BB0.b0.c0) | (with_reducible exact BB0.b0.c1) | (with_reducible refine c_alloc _ ?_) | (with_reducible refine c_drew ?_) | (with_reducible refine c_set ?_ hg_g ?_) | omega)))) (first | (go_at_call 13; (with_reducible refine (HO.out _).mono ?_); rintro e w1 ⟨vh, rfl, iz, be⟩; (first | (replace D := D.step be; replace BB := BB.step be) | (replace D := (D.boxM hmd false none 0 0).step be; replace BB := (BB.alloc _).step be) | (replace D := (D.boxM2 hmd false false none none 0 0 0 0).step be; replace BB := ((BB.alloc _).alloc _).step be) | (replace D := (D.box false none 0 0).step be; replace BB := (BB.alloc _).step be) | (replace D := (D.box2 false false none none 0 0 0 0).step be; replace BB := ((BB.alloc _).alloc _).step be)); have hz := be.size; (try simp at hz); replace D := D.z iz; clear iz be; (try (have q000 := D.lz.b0.c0; have q001 := D.lz.b0.c1; have q002 := D.lz.b0.fr 0; have q003 := D.lz.b0.fr 1)); (try (have q010 := (D.alloc (.cells #[.bool false, .slice none 0 0] 24)).lz.b0.c0; have q011 := (D.alloc (.cells #[.bool false, .slice none 0 0] 24)).lz.b0.c1; have q012 := (D.alloc (.cells #[.bool false, .slice none 0 0] 24)).lz.b0.fr 0; have q013 := (D.alloc (.cells #[.bool false, .slice none 0 0] 24)).lz.b0.fr 1)); (try (have q020 := ((D.alloc (.cells #[.bool false, .slice none 0 0] 24)).alloc (.cells #[.bool false, .slice none 0 0] 24)).lz.b0.c0; have q021 := ((D.alloc (.cells #[.bool false, .slice none 0 0] 24)).alloc (.cells #[.bool false, .slice none 0 0] 24)).lz.b0.c1; have q022 := ((D.alloc (.cells #[.bool false, .slice none 0 0] 24)).alloc (.cells #[.bool false, .slice none 0 0] 24)).lz.b0.fr 0; have q023 := ((D.alloc (.cells #[.bool false, .slice none 0 0] 24)).alloc (.cells #[.bool false, .slice none 0 0] 24)).lz.b0.fr 1)); (try (have q100 := D.lz.tl.b0.c0; have q101 := D.lz.tl.b0.c1; have q102 := D.lz.tl.b0.fr 0; have q103 := D.lz.tl.b0.fr 1)); (try (have q110 := (D.alloc (.cells #[.bool false, .slice none 0 0] 24)).lz.tl.b0.c0; have q111 := (D.alloc (.cells #[.bool false, .slice none 0 0] 24)).lz.tl.b0.c1; have q112 := (D.alloc (.cells #[.bool false, .slice none 0 0] 24)).lz.tl.b0.fr 0; have q113 := (D.alloc (.cells #[.bool false, .slice none 0 0] 24)).lz.tl.b0.fr 1)); (try (have q120 := ((D.alloc (.cells #[.bool false, .slice none 0 0] 24)).alloc (.cells #[.bool false, .slice none 0 0] 24)).lz.tl.b0.c0; have q121 := ((D.alloc (.cells #[.bool false, .slice none 0 0] 24)).alloc (.cells #[.bool false, .slice none 0 0] 24)).lz.tl.b0.c1; have q122 := ((D.alloc (.cells #[.bool false, .slice none 0 0] 24)).alloc (.cells #[.bool false, .slice none 0 0] 24)).lz.tl.b0.fr 0; have q123 := ((D.alloc (.cells #[.bool false, .slice none 0 0] 24)).alloc (.cells #[.bool false, .slice none 0 0] 24)).lz.tl.b0.fr 1)); (try obtain ⟨na, nb, nc, nd, nl⟩ := D.n0); (try obtain ⟨ne, nf, ng', nh, nm⟩ := D.n1); (try obtain ⟨ni, nj⟩ := D.n01)) | (go_at_call 36; (with_reducible refine (HP.out _ _ ?_).mono ?_); (· (first | (with_reducible refine D.getZ ?_; (repeat (first | (with_reducible exact List.mem_cons_self) | apply List.mem_cons_of_mem))) | (with_reducible refine (D.box false none 0 0).getZ ?_; (repeat (first | (with_reducible exact List.mem_cons_self) | apply List.mem_cons_of_mem))) | (with_reducible refine (D.box2 false false none none 0 0 0 0).getZ ?_; (repeat (first | (with_reducible exact List.mem_cons_self) | apply List.mem_cons_of_mem))) | (with_reducible refine (D0.box false none 0 0).drew.getZ ?_; (repeat (first | (with_reducible exact List.mem_cons_self) | apply List.mem_cons_of_mem))) | (with_reducible refine (D0.box2 false false none none 0 0 0 0).drew.getZ ?_; (repeat (first | (with_reducible exact List.mem_cons_self) | apply List.mem_cons_of_mem))))); rintro e w2 ⟨vh, rfl, iz, be⟩; (first | (replace D := D.step be; replace BB := BB.step be) | (replace D := (D.boxM hmd false none 0 0).step be; replace BB := (BB.alloc _).step be) | (replace D := (D.boxM2 hmd false false none none 0 0 0 0).step be; replace BB := ((BB.alloc _).alloc _).step be) | (replace D := (D.box false none 0 0).step be; replace BB := (BB.alloc _).step be) | (replace D := (D.box2 false false none none 0 0 0 0).step be; replace BB := ((BB.alloc _).alloc _).step be)); have hz := be.size; (try simp at hz); replace D := D.z iz; clear iz be; (try (have q000 := D.lz.b0.c0; have q001 := D.lz.b0.c1; have q002 := D.lz.b0.fr 0; have q003 := D.lz.b0.fr 1)); (try (have q010 := (D.alloc (.cells #[.bool false, .slice none 0 0] 24)).lz.b0.c0; have q011 := (D.alloc (.cells #[.bool false, .slice none 0 0] 24)).lz.b0.c1; have q012 := (D.alloc (.cells #[.bool false, .slice none 0 0] 24)).lz.b0.fr 0; have q013 := (D.alloc (.cells #[.bool false, .slice none 0 0] 24)).lz.b0.fr 1)); (try (have q020 := ((D.alloc (.cells #[.bool false, .slice none 0 0] 24)).alloc (.cells #[.bool false, .slice none 0 0] 24)).lz.b0.c0; have q021 := ((D.alloc (.cells #[.bool false, .slice none 0 0] 24)).alloc (.cells #[.bool false, .slice none 0 0] 24)).lz.b0.c1; have q022 := ((D.alloc (.cells #[.bool false, .slice none 0 0] 24)).alloc (.cells #[.bool false, .slice none 0 0] 24)).lz.b0.fr 0; have q023 := ((D.alloc (.cells #[.bool false, .slice none 0 0] 24)).alloc (.cells #[.bool false, .slice none 0 0] 24)).lz.b0.fr 1)); (try (have q100 := D.lz.tl.b0.c0; have q101 := D.lz.tl.b0.c1; have q102 := D.lz.tl.b0.fr 0; have q103 := D.lz.tl.b0.fr 1)); (try (have q110 := (D.alloc (.cells #[.bool false, .slice none 0 0] 24)).lz.tl.b0.c0; have q111 := (D.alloc (.cells #[.bool false, .slice none 0 0] 24)).lz.tl.b0.c1; have q112 := (D.alloc (.cells #[.bool false, .slice none 0 0] 24)).lz.tl.b0.fr 0; have q113 := (D.alloc (.cells #[.bool false, .slice none 0 0] 24)).lz.tl.b0.fr 1)); (try (have q120 := ((D.alloc (.cells #[.bool false, .slice none 0 0] 24)).alloc (.cells #[.bool false, .slice none 0 0] 24)).lz.tl.b0.c0; have q121 := ((D.alloc (.cells #[.bool false, .slice none 0 0] 24)).alloc (.cells #[.bool false, .slice none 0 0] 24)).lz.tl.b0.c1; have q122 := ((D.alloc (.cells #[.bool false, .slice none 0 0] 24)).alloc (.cells #[.bool false, .slice none 0 0] 24)).lz.tl.b0.fr 0; have q123 := ((D.alloc (.cells #[.bool false, .slice none 0 0] 24)).alloc (.cells #[.bool false, .slice none 0 0] 24)).lz.tl.b0.fr 1)); (try obtain ⟨na, nb, nc, nd, nl⟩ := D.n0); (try obtain ⟨ne, nf, ng', nh, nm⟩ := D.n1); (try obtain ⟨ni, nj⟩ := D.n01)) | (go_at_call 33; (with_reducible refine (HQ.out _ _ _ ?_ ?_).mono ?_); (· (first | (with_reducible refine D.getZ ?_; (repeat (first | (with_reducible exact List.mem_cons_self) | apply List.mem_cons_of_mem))) | (with_reducible refine (D.box false none 0 0).getZ ?_; (repeat (first | (with_reducible exact List.mem_cons_self) | apply List.mem_cons_of_mem))) | (with_reducible refine (D.box2 false false none none 0 0 0 0).getZ ?_; (repeat (first | (with_reducible exact List.mem_cons_self) | apply List.mem_cons_of_mem))) | (with_reducible refine (D0.box false none 0 0).drew.getZ ?_; (repeat (first | (with_reducible exact List.mem_cons_self) | apply List.mem_cons_of_mem))) | (with_reducible refine (D0.box2 false false none none 0 0 0 0).drew.getZ ?_; (repeat (first | (with_reducible exact List.mem_cons_self) | apply List.mem_cons_of_mem))))); (· (first | (with_reducible refine D.getZ ?_; (repeat (first | (with_reducible exact List.mem_cons_self) | apply List.mem_cons_of_mem))) | (with_reducible refine (D.box false none 0 0).getZ ?_; (repeat (first | (with_reducible exact List.mem_cons_self) | apply List.mem_cons_of_mem))) | (with_reducible refine (D.box2 false false none none 0 0 0 0).getZ ?_; (repeat (first | (with_reducible exact List.mem_cons_self) | apply List.mem_cons_of_mem))) | (with_reducible refine (D0.box false none 0 0).drew.getZ ?_; (repeat (first | (with_reducible exact List.mem_cons_self) | apply List.mem_cons_of_mem))) | (with_reducible refine (D0.box2 false false none none 0 0 0 0).drew.getZ ?_; (repeat (first | (with_reducible exact List.mem_cons_self) | apply List.mem_cons_of_mem))))); rintro e w3 ⟨vq, vr, rfl, iq, ir, be⟩; (first | (replace D := D.step be; replace BB := BB.step be) | (replace D := (D.boxM hmd false none 0 0).step be; replace BB := (BB.alloc _).step be) | (replace D := (D.boxM2 hmd false false none none 0 0 0 0).step be; replace BB := ((BB.alloc _).alloc _).step be) | (replace D := (D.box false none 0 0).step be; replace BB := (BB.alloc _).step be) | (replace D := (D.box2 false false none none 0 0 0 0).step be; replace BB := ((BB.alloc _).alloc _).step be)); have hz := be.size; (try simp at hz); replace D := (D.z iq).z ir; obtain ⟨A3, c3, rfl, _⟩ := iq.form; obtain ⟨A4, c4, rfl, _⟩ := ir.form; clear iq ir be; (try (have q000 := D.lz.b0.c0; have q001 := D.lz.b0.c1; have q002 := D.lz.b0.fr 0; have q003 := D.lz.b0.fr 1)); (try (have q010 := (D.alloc (.cells #[.bool false, .slice none 0 0] 24)).lz.b0.c0; have q011 := (D.alloc (.cells #[.bool false, .slice none 0 0] 24)).lz.b0.c1; have q012 := (D.alloc (.cells #[.bool false, .slice none 0 0] 24)).lz.b0.fr 0; have q013 := (D.alloc (.cells #[.bool false, .slice none 0 0] 24)).lz.b0.fr 1)); (try (have q020 := ((D.alloc (.cells #[.bool false, .slice none 0 0] 24)).alloc (.cells #[.bool false, .slice none 0 0] 24)).lz.b0.c0; have q021 := ((D.alloc (.cells #[.bool false, .slice none 0 0] 24)).alloc (.cells #[.bool false, .slice none 0 0] 24)).lz.b0.c1; have q022 := ((D.alloc (.cells #[.bool false, .slice none 0 0] 24)).alloc (.cells #[.bool false, .slice none 0 0] 24)).lz.b0.fr 0; have q023 := ((D.alloc (.cells #[.bool false, .slice none 0 0] 24)).alloc (.cells #[.bool false, .slice none 0 0] 24)).lz.b0.fr 1)); (try (have q100 := D.lz.tl.b0.c0; have q101 := D.lz.tl.b0.c1; have q102 := D.lz.tl.b0.fr 0; have q103 := D.lz.tl.b0.fr 1)); (try (have q110 := (D.alloc (.cells #[.bool false, .slice none 0 0] 24)).lz.tl.b0.c0; have q111 := (D.alloc (.cells #[.bool false, .slice none 0 0] 24)).lz.tl.b0.c1; have q112 := (D.alloc (.cells #[.bool false, .slice none 0 0] 24)).lz.tl.b0.fr 0; have q113 := (D.alloc (.cells #[.bool false, .slice none 0 0] 24)).lz.tl.b0.fr 1)); (try (have q120 := ((D.alloc (.cells #[.bool false, .slice none 0 0] 24)).alloc (.cells #[.bool false, .slice none 0 0] 24)).lz.tl.b0.c0; have q121 := ((D.alloc (.cells #[.bool false, .slice none 0 0] 24)).alloc (.cells #[.bool false, .slice none 0 0] 24)).lz.tl.b0.c1; have q122 := ((D.alloc (.cells #[.bool false, .slice none 0 0] 24)).alloc (.cells #[.bool false, .slice none 0 0] 24)).lz.tl.b0.fr 0; have q123 := ((D.alloc (.cells #[.bool false, .slice none 0 0] 24)).alloc (.cells #[.bool false, .slice none 0 0] 24)).lz.tl.b0.fr 1)); (try obtain ⟨na, nb, nc, nd, nl⟩ := D.n0); (try obtain ⟨ne, nf, ng', nh, nm⟩ := D.n1); (try obtain ⟨ni, nj⟩ := D.n01)))
            all_goals
              go_wp2_with fail
              go_meet
              refine ⟨?_, rfl⟩
              first
              | ((with_reducible refine made_a D ?_ ?_) <;> (repeat (first | (with_reducible exact List.mem_cons_self) | apply List.mem_cons_of_mem)))
              | ((with_reducible refine made_b D ?_ ?_) <;> (repeat (first | (with_reducible exact List.mem_cons_self) | apply List.mem_cons_of_mem)))
              | ((with_reducible refine made_c D ?_ ?_) <;> (repeat (first | (with_reducible exact List.mem_cons_self) | apply List.mem_cons_of_mem)))
              | ((with_reducible refine made_d D ?_ ?_) <;> (repeat (first | (with_reducible exact List.mem_cons_self) | apply List.mem_cons_of_mem)))
              | ((with_reducible refine made_e D ?_ ?_) <;> (repeat (first | (with_reducible exact List.mem_cons_self) | apply List.mem_cons_of_mem)))
              | ((with_reducible refine made_f D ?_ ?_) <;> (repeat (first | (with_reducible exact List.mem_cons_self) | apply List.mem_cons_of_mem)))
          case rest =>
            obtain ⟨⟨g3, g4, A3, c3, A4, c4, rfl, rfl, bw2, hb3, hb4, hz3, hz4⟩, rfl⟩ := hcut
            have L := ((((((((Lz.mk0 wd).step bw2).z (HV.out.mono bw2)).z (HZ1.out.mono bw2)).z (HZ2.out.mono bw2)).z hz3).b (HY.out.mono bw2)).b (HB1.out.mono bw2)).b (HB2.out.mono bw2) |>.b hb3
            have hux : u / 2 ^ k = x := by
              rw [← HW.out.1]
              exact Int.mul_ediv_cancel x (Int.ne_of_gt (Int.pow_pos (by omega)))
            have R1 := fun vx W h => rzshl_any x vx W h (by omega) k (by omega)
            have R2 := fun vx W h => rzshr_any x vx W h (by omega) k (by omega)
            have S5 := fun vx W h h2 => zshr_any u vx W h (by omega) k (by omega) h2
            rw [HW.out.1] at R1
            rw [HW.out.2] at R2
            rw [hux] at S5
            have HR1 := Lib.hid R1
            have HR2 := Lib.hid R2
            have HS5 := Lib.hid S5
            have TC := Lib.hid (T2.out.mono BW.out)
            clear R1 R2 S5 hux hb3 hb4 hz3 hz4 bw2 D D0 BB BB0 hmw hz0 hmd hg_g hgr
            go_wp2_with fail
            replace L := L.drew
            go_region_held3 (fun w' => w'.cell? ⟨g, 0, none⟩ = some (.bool (ng x)) ∧ w'.cell? ⟨g, 1, none⟩ = some (.slice A (zl x) c) ∧ w'.cell? ⟨g1, 0, none⟩ = some (.bool (ng u)) ∧ w'.cell? ⟨g1, 1, none⟩ = some (.slice A1 (zl u) c1) ∧ w'.cell? ⟨g2, 0, none⟩ = some (.bool (ng d)) ∧ w'.cell? ⟨g2, 1, none⟩ = some (.slice A2 (zl d) c2) ∧ w'.cell? ⟨g3, 0, none⟩ = some (.bool (ng d)) ∧ w'.cell? ⟨g3, 1, none⟩ = some (.slice A3 (zl d) c3)) (first | (with_reducible exact ⟨L.tl.tl.tl.b0.c0, L.tl.tl.tl.b0.c1, L.tl.tl.b0.c0, L.tl.tl.b0.c1, L.tl.b0.c0, L.tl.b0.c1, L.b0.c0, L.b0.c1⟩) | exact ⟨L.tl.tl.tl.b0.c0, L.tl.tl.tl.b0.c1, L.tl.tl.b0.c0, L.tl.tl.b0.c1, L.tl.b0.c0, L.tl.b0.c1, L.b0.c0, L.b0.c1⟩) (first | (go_at_call 38; (with_reducible refine (HR1.out _ _ ?_).mono ?_); (· (refine L.getZ ?_; (repeat (first | (with_reducible exact List.mem_cons_self) | apply List.mem_cons_of_mem)))); rintro e wh ⟨vh, rfl, iz, be⟩; replace L := (L.step be).z iz; clear iz be) | (go_at_call 39; (with_reducible refine (HR2.out _ _ ?_).mono ?_); (· (refine L.getZ ?_; (repeat (first | (with_reducible exact List.mem_cons_self) | apply List.mem_cons_of_mem)))); rintro e wh ⟨vh, rfl, iz, be⟩; replace L := (L.step be).z iz; clear iz be) | (go_at_call 37; (with_reducible refine (HS5.out _ _ ?_ ?_).mono ?_); (· (refine L.getZ ?_; (repeat (first | (with_reducible exact List.mem_cons_self) | apply List.mem_cons_of_mem)))); (· exact (TC.out.mono L.below)); rintro e wh ⟨vh, rfl, iz, be⟩; replace L := (L.step be).z iz; clear iz be) | (go_at_call 16; (with_reducible refine (zsame_yes u u _ _ _ ?_ ?_ rfl).mono ?_); (· (refine L.getZ ?_; (repeat (first | (with_reducible exact List.mem_cons_self) | apply List.mem_cons_of_mem)))); (· (refine L.getZ ?_; (repeat (first | (with_reducible exact List.mem_cons_self) | apply List.mem_cons_of_mem)))); rintro e wh ⟨rfl, be⟩; replace L := L.step be; clear be) | (go_at_call 16; (with_reducible refine (zsame_yes d d _ _ _ ?_ ?_ rfl).mono ?_); (· (refine L.getZ ?_; (repeat (first | (with_reducible exact List.mem_cons_self) | apply List.mem_cons_of_mem)))); (· (refine L.getZ ?_; (repeat (first | (with_reducible exact List.mem_cons_self) | apply List.mem_cons_of_mem)))); rintro e wh ⟨rfl, be⟩; replace L := L.step be; clear be) | (go_at_call 16; (with_reducible refine (zsame_yes x x _ _ _ ?_ ?_ rfl).mono ?_); (· (refine L.getZ ?_; (repeat (first | (with_reducible exact List.mem_cons_self) | apply List.mem_cons_of_mem)))); (· (refine L.getZ ?_; (repeat (first | (with_reducible exact List.mem_cons_self) | apply List.mem_cons_of_mem)))); rintro e wh ⟨rfl, be⟩; replace L := L.step be; clear be))
            go_wp2_with fail
            go_roundw
            case rel =>
              have hrl := B.trans ((BW.out.trans (L.below.mono BW.out.size)).mono B.size)
              first
              | exact ⟨j + 1, by go_num, by omega, hrl⟩
              | ((repeat apply Exists.intro); exact ⟨⟨j + 1, by go_num, by omega, hrl⟩, rfl⟩)
            case measure => simp [intOf] <;> omega

end Go.Proofs.YtajegednakenbaaDoor
