/- The mill's Rat. -/
import Derived.Test.YtpgiolbnmlbjbaaGreatDoorRatWays
import Derived.Test.YtpgiolbnmlbjbaaGreatDoorRefRatC
import Derived.Test.YtpgiolbnmlbjbaaGreatDoorBaseR
import Derived.Deep.RegionHeld3
import Derived.Deep.DrawnRows
import Derived.Deep.Cut
import Derived.Deep.CutRange
namespace Go.Proofs.YtpgiolbnmlbjbaaGreatDoor
open Go.RowKit
set_option linter.unusedVariables false
set_option linter.unusedSimpArgs false
set_option maxRecDepth 100000
attribute [local go_sem ↓] Go.wp_at_zero Go.wp_at_succ

/-- A valid fraction that is short enough, or a zero value, and whether it is. -/
def RetMillQ (w : World) (k : Nat) (e : Ending) (w' : World) : Prop := ∃ v ok a d, e = .returned (.tuple #[v, .bool ok]) ∧ IsP w' v a d ∧ zl a ≤ k + 1 ∧ len d ≤ k + 1 ∧ (ok = true → ∃ q : Rat, a = q.num ∧ d = q.den) ∧ Below w.heap.size w w'
theorem divInt_small (n : Int) (m : Nat) (k : Nat) (hn : zl n ≤ k) (hm : len m ≤ k) (h0 : 0 < m) : zl (Rat.divInt n (m : Int)).num ≤ k ∧ len (Rat.divInt n (m : Int)).den ≤ k := by
  obtain ⟨e1, e2⟩ := divInt_pair n (m : Int) (by omega)
  rw [e1, e2, zl_sg, Int.natAbs_natCast]
  exact ⟨Nat.le_trans (len_div_le _ _) hn, Nat.le_trans (len_div_le _ _) hm⟩

set_option maxHeartbeats 4000000 in
theorem millRat_any (b : Bool) (l l2 : List Nat) (m : Nat) (A B : Option Addr) (n c n2 c2 : Nat) (w : World) (h : Sl w A n c l) (h2 : Sl w B n2 c2 l2) (hm : m ≤ 100000) :
    Calls Tryz.prog 43 #[.agg #[.bool b, .slice A n c, .slice B n2 c2], .int .i64 (m : Int)] w (RetMillQ w m) := by
  have H1 := Lib.hid (fun W (hW : Below w.heap.size w W) => millZ_any b l m A n c W (h.mono hW) (by omega))
  have H2 := Lib.hid (fun W (hW : Below w.heap.size w W) => mill_any l2 m B n2 c2 W (h2.mono hW) (by omega))
  have HO := Lib.hid (fun W => rof_any 1 W (by omega))
  clear h h2
  go_enter Tryz.func43, Tryz.ntmps43
  go_wp2_with fail
  have L := (((Lq.mk0 w).varQ (w.heap.size) (by simp) b A B n c n2 c2).varQ (w.heap.size + 1) (by simp) false none none 0 0 0 0)
  have c00 := L.b0.c30
  have f00 := L.b0.fr 0
  have c01 := L.b0.c31
  have f01 := L.b0.fr 1
  have c02 := L.b0.c32
  have f02 := L.b0.fr 2
  have c10 := L.tl.b0.c30
  have c11 := L.tl.b0.c31
  have c12 := L.tl.b0.c32
  refine (H1.out _ L.below).mono ?_
  rintro e w1 ⟨v1, ok1, z, rfl, iz, lz, be⟩
  clear c00 f00 c01 f01 c02 f02 c10 c11 c12
  replace L := (L.step be).z iz
  obtain ⟨A1, c1, rfl, _⟩ := iz.form
  clear be iz
  have hlt := L.b0.lt
  replace L := L.varZ w1.heap.size rfl (ng z) A1 (zl z) c1
  have c00 := L.b0.c20
  have f00 := L.b0.fr 0
  have c01 := L.b0.c21
  have f01 := L.b0.fr 1
  have c10 := L.tl.b0.c30
  have f10 := L.tl.b0.fr 0
  have c11 := L.tl.b0.c31
  have f11 := L.tl.b0.fr 1
  have c12 := L.tl.b0.c32
  have f12 := L.tl.b0.fr 2
  have c20 := L.tl.tl.b0.c30
  have c21 := L.tl.tl.b0.c31
  have c22 := L.tl.tl.b0.c32
  go_wp2_with fail
  obtain ⟨g, hg⟩ : ∃ g, w1.heap.size = g := ⟨_, rfl⟩
  rw [hg] at L c00 c01 f00 f01 hlt ⊢
  clear hg
  refine (H2.out _ L.below).mono ?_
  rintro e w2 ⟨v2, ok2, x, rfl, hx, lx, be⟩
  clear c00 f00 c01 f01 c10 f10 c11 f11 c12 f12 c20 c21 c22
  replace L := (L.step be).n hx
  obtain ⟨A2, c3, rfl⟩ := hx.form
  clear be hx
  have c00 := L.b0.c20
  have f00 := L.b0.fr 0
  have c01 := L.b0.c21
  have f01 := L.b0.fr 1
  have c10 := L.tl.b0.c30
  have f10 := L.tl.b0.fr 0
  have c11 := L.tl.b0.c31
  have f11 := L.tl.b0.fr 1
  have c12 := L.tl.b0.c32
  have f12 := L.tl.b0.fr 2
  have c20 := L.tl.tl.b0.c30
  have c21 := L.tl.tl.b0.c31
  have c22 := L.tl.tl.b0.c32
  cases ok1
  · go_wp2_with fail
    have LP := L.swap.putQ (by omega) (by first | (simp; done) | (simp; omega)) false none none 0 0 0 0
    have k0 := LP.b0.c30
    have k1 := LP.b0.c31
    have k2 := LP.b0.c32
    unfold put3 at k0 k1 k2
    exact bodyPost_ret (v := .tuple #[.agg #[.bool false, .slice none 0 0, .slice none 0 0], .bool false]) (by simp [results, Tryz.results43, go_sem, k0, k1, k2]) rfl ⟨_, _, _, _, rfl, isP_zero _, by rw [zl_zero]; omega, by rw [len_zero]; omega, fun h => (by cases h), LP.below⟩
  · cases ok2
    · go_wp2_with fail
      have LP := L.swap.putQ (by omega) (by first | (simp; done) | (simp; omega)) false none none 0 0 0 0
      have k0 := LP.b0.c30
      have k1 := LP.b0.c31
      have k2 := LP.b0.c32
      unfold put3 at k0 k1 k2
      exact bodyPost_ret (v := .tuple #[.agg #[.bool false, .slice none 0 0, .slice none 0 0], .bool false]) (by simp [results, Tryz.results43, go_sem, k0, k1, k2]) rfl ⟨_, _, _, _, rfl, isP_zero _, by rw [zl_zero]; omega, by rw [len_zero]; omega, fun h => (by cases h), LP.below⟩
    · rcases Nat.eq_zero_or_pos x with hx0 | hx0
      · subst hx0
        rw [len_zero] at L ⊢
        go_wp2_with fail
        refine (HO.out _).mono ?_
        rintro e wy ⟨vd, rfl, o⟩
        replace L := (L.step o.below).n o.isN
        clear o
        obtain ⟨A4, c4, rfl⟩ := L.hn.form
        have ly : len 1 ≤ m + 1 := Nat.le_trans (len_le1 (by omega)) (by omega)
        have hy0 : 0 < 1 := by omega
        go_wp2_with fail
        have HS := Lib.hid (fun v W h => rznatN_any false 1 v W h (by omega))
        have hq := divInt_small z 1 (m + 1) (by omega) ly hy0
        have l1 : zl (sg false 1) ≤ m + 1 := by rw [zl_sg]; exact ly
        have e1 : sg false 1 = (1 : Int) := rfl
        rw [e1] at l1 HS
        have HM := Lib.hid (fun v u W h1 h2 => rmake_any z (1 : Int) v u W h1 h2 (by omega) (by omega) (by omega))
        have HQ := Lib.hid (show ∃ q : Rat, (Rat.divInt z (1 : Int)).num = q.num ∧ (Rat.divInt z (1 : Int)).den = q.den from ⟨_, rfl, rfl⟩)
        generalize (Rat.divInt z (1 : Int)).num = rn at *
        generalize (Rat.divInt z (1 : Int)).den = rd at *
        have HN := Lib.hid (L.getN (v := .slice A4 (len 1) c4) (x := 1) (by simp))
        have HZ := Lib.hid (L.getZ (v := .agg #[.bool (ng z), .slice A1 (zl z) c1]) (x := z) (by simp))
        have HV := Lib.hid L.b0
        have QA := Lib.hid (fun W (hW : Below wy.heap.size wy W) => (L.b0.mono hW).c20)
        have QB := Lib.hid (fun W (hW : Below wy.heap.size wy W) => (L.b0.mono hW).c21)
        have hgm0 := L.b0.lt
        have LL := Lib.hid L
        clear L e1 l1 hy0
        clear c00 f00 c01 f01 c10 f10 c11 f11 c12 f12 c20 c21 c22
        have D0 : Dq wy wy [(.slice A4 (len 1) c4, 1)] [(.agg #[.bool (ng z), .slice A1 (zl z) c1], z)] [] [] := ⟨((Lq.mk0 wy).z HZ.out).n HN.out, List.nodup_nil, fun p hp => by cases hp⟩
        have D := D0.drew
        obtain ⟨k, hk⟩ : ∃ k, wy.heap.size = k := ⟨_, rfl⟩
        have hgm : g < k := by omega
        have hz0 : k ≤ wy.heap.size := by omega
        have hmd : wy.drew.heap.size = k := hk
        go_cut [10, 11] from 37 to 43 (fun s10 s11 wx => Made1Q wy rn rd s10 wx ∧ s11 = .int .i64 0)
        case first =>
          go_region_held3 (fun w' => w'.cell? ⟨g, 0, none⟩ = some (.bool (ng z)) ∧ w'.cell? ⟨g, 1, none⟩ = some (.slice A1 (zl z) c1)) (((try dsimp only); refine ⟨?_, ?_⟩ <;> (repeat (first | (with_reducible exact QA.out _ D.lq.below) | (with_reducible exact QB.out _ D.lq.below) | (with_reducible exact QA.out _ D0.lq.below) | (with_reducible exact QB.out _ D0.lq.below) | (with_reducible refine c_alloc _ ?_) | (with_reducible refine c_drew ?_) | (with_reducible refine c_set ?_ hgm ?_) | omega)))) (first | (go_at_call 53; (with_reducible refine (HS.out _ _ ?_).mono ?_); (· (first | (with_reducible refine D.getN ?_; (repeat (first | (with_reducible exact List.mem_cons_self) | apply List.mem_cons_of_mem))) | (with_reducible refine (D.box false none none 0 0 0 0).getN ?_; (repeat (first | (with_reducible exact List.mem_cons_self) | apply List.mem_cons_of_mem))) | (with_reducible refine (D0.box false none none 0 0 0 0).drew.getN ?_; (repeat (first | (with_reducible exact List.mem_cons_self) | apply List.mem_cons_of_mem))))); rintro e wh ⟨vh, rfl, iz, be⟩; (first | (replace D := (D.step be).z iz) | (replace D := ((D.boxM hmd false none none 0 0 0 0).step be).z iz) | (replace D := ((D.box false none none 0 0 0 0).step be).z iz)); have hz := be.size; (try simp at hz); (try (have x00 := D.lq.b0.c30; have x01 := D.lq.b0.c31; have x02 := D.lq.b0.c32; have y00 := D.lq.b0.fr 0; have y01 := D.lq.b0.fr 1; have y02 := D.lq.b0.fr 2)); (try obtain ⟨na, nb, nc, nd, nl⟩ := D.n0)) | (go_at_call 88; (with_reducible refine (HM.out _ _ _ ?_ ?_).mono ?_); (· (first | (with_reducible refine D.getZ ?_; (repeat (first | (with_reducible exact List.mem_cons_self) | apply List.mem_cons_of_mem))) | (with_reducible refine (D.box false none none 0 0 0 0).getZ ?_; (repeat (first | (with_reducible exact List.mem_cons_self) | apply List.mem_cons_of_mem))) | (with_reducible refine (D0.box false none none 0 0 0 0).drew.getZ ?_; (repeat (first | (with_reducible exact List.mem_cons_self) | apply List.mem_cons_of_mem))))); (· (first | (with_reducible refine D.getZ ?_; (repeat (first | (with_reducible exact List.mem_cons_self) | apply List.mem_cons_of_mem))) | (with_reducible refine (D.box false none none 0 0 0 0).getZ ?_; (repeat (first | (with_reducible exact List.mem_cons_self) | apply List.mem_cons_of_mem))) | (with_reducible refine (D0.box false none none 0 0 0 0).drew.getZ ?_; (repeat (first | (with_reducible exact List.mem_cons_self) | apply List.mem_cons_of_mem))))); rintro e wh ⟨vh, rfl, iq, be⟩; (first | (replace D := (D.step be).q iq) | (replace D := ((D.boxM hmd false none none 0 0 0 0).step be).q iq) | (replace D := ((D.box false none none 0 0 0 0).step be).q iq)); obtain ⟨A9, c9, B9, d9, rfl, _, _, _⟩ := iq.form; have hz := be.size; (try simp at hz); (try (have x00 := D.lq.b0.c30; have x01 := D.lq.b0.c31; have x02 := D.lq.b0.c32; have y00 := D.lq.b0.fr 0; have y01 := D.lq.b0.fr 1; have y02 := D.lq.b0.fr 2)); (try obtain ⟨na, nb, nc, nd, nl⟩ := D.n0)))
          all_goals
            go_wp2_with fail
            go_meet
            refine ⟨?_, rfl⟩
            first
            | ((with_reducible refine made1q_a D ?_) <;> (repeat (first | (with_reducible exact List.mem_cons_self) | apply List.mem_cons_of_mem)))
            | ((with_reducible refine made1q_b D ?_) <;> (repeat (first | (with_reducible exact List.mem_cons_self) | apply List.mem_cons_of_mem)))
        case rest =>
          obtain ⟨⟨g2, A3, c5, B3, d5, rfl, hg2, bw, hbx, hqq⟩, rfl⟩ := hcut
          have L := (LL.out.step bw).q hqq
          clear D D0 hmd hz0 hgm HN HZ HV QA QB
          generalize wc = wd at *
          have hne : w.heap.size + 1 ≠ g2 := by omega
          replace L := L.b hbx
          have q0 := L.b0.c30
          have q1 := L.b0.c31
          have q2 := L.b0.c32
          have r0 := L.tl.tl.b0.c30
          have r1 := L.tl.tl.b0.c31
          have r2 := L.tl.tl.b0.c32
          have s0 := L.tl.tl.b0.fr 0
          have s1 := L.tl.tl.b0.fr 1
          have s2 := L.tl.tl.b0.fr 2
          go_wp2_with fail
          have LP := L.pull2.putQ (by omega) (by first | (simp; done) | (simp; omega)) (ng rn) A3 B3 (zl rn) c5 (len rd) d5
          have k0 := LP.b0.c30
          have k1 := LP.b0.c31
          have k2 := LP.b0.c32
          unfold put3 at k0 k1 k2
          exact bodyPost_ret (v := .tuple #[.agg #[.bool (ng rn), .slice A3 (zl rn) c5, .slice B3 (len rd) d5], .bool true]) (by simp [results, Tryz.results43, go_sem, k0, k1, k2]) rfl ⟨_, _, _, _, rfl, LP.hq, hq.1, hq.2, fun _ => HQ.out, LP.below⟩
      · have hlp := len_pos hx0
        obtain ⟨r, hr⟩ : ∃ r, len x = r + 1 := ⟨len x - 1, by omega⟩
        have hrz : ((r : Int) + 1 == 0) = false := by simp; omega
        have ly : len x ≤ m + 1 := by omega
        have hy0 := hx0
        have hr2 := hr
        rw [hr] at L ⊢
        clear hlp hx0
        generalize w2 = wy at *
        go_wp2_with fail
        have HS := Lib.hid (fun v W h => rznatN_any false x v W h (by omega))
        have hq := divInt_small z x (m + 1) (by omega) ly hy0
        have l1 : zl (sg false x) ≤ m + 1 := by rw [zl_sg]; exact ly
        have e1 : sg false x = (x : Int) := rfl
        rw [e1] at l1 HS
        have HM := Lib.hid (fun v u W h1 h2 => rmake_any z (x : Int) v u W h1 h2 (by omega) (by omega) (by omega))
        have HQ := Lib.hid (show ∃ q : Rat, (Rat.divInt z (x : Int)).num = q.num ∧ (Rat.divInt z (x : Int)).den = q.den from ⟨_, rfl, rfl⟩)
        generalize (Rat.divInt z (x : Int)).num = rn at *
        generalize (Rat.divInt z (x : Int)).den = rd at *
        have HN := Lib.hid (L.getN (v := .slice A2 (r + 1) c3) (x := x) (by simp))
        have HZ := Lib.hid (L.getZ (v := .agg #[.bool (ng z), .slice A1 (zl z) c1]) (x := z) (by simp))
        have HV := Lib.hid L.b0
        have QA := Lib.hid (fun W (hW : Below wy.heap.size wy W) => (L.b0.mono hW).c20)
        have QB := Lib.hid (fun W (hW : Below wy.heap.size wy W) => (L.b0.mono hW).c21)
        have hgm0 := L.b0.lt
        have LL := Lib.hid L
        clear L e1 l1 hy0
        clear c00 f00 c01 f01 c10 f10 c11 f11 c12 f12 c20 c21 c22
        have D0 : Dq wy wy [(.slice A2 (r + 1) c3, x)] [(.agg #[.bool (ng z), .slice A1 (zl z) c1], z)] [] [] := ⟨((Lq.mk0 wy).z HZ.out).n HN.out, List.nodup_nil, fun p hp => by cases hp⟩
        have D := D0.drew
        obtain ⟨k, hk⟩ : ∃ k, wy.heap.size = k := ⟨_, rfl⟩
        have hgm : g < k := by omega
        have hz0 : k ≤ wy.heap.size := by omega
        have hmd : wy.drew.heap.size = k := hk
        go_cut [10, 11] from 37 to 43 (fun s10 s11 wx => Made1Q wy rn rd s10 wx ∧ s11 = .int .i64 0)
        case first =>
          go_region_held3 (fun w' => w'.cell? ⟨g, 0, none⟩ = some (.bool (ng z)) ∧ w'.cell? ⟨g, 1, none⟩ = some (.slice A1 (zl z) c1)) (((try dsimp only); refine ⟨?_, ?_⟩ <;> (repeat (first | (with_reducible exact QA.out _ D.lq.below) | (with_reducible exact QB.out _ D.lq.below) | (with_reducible exact QA.out _ D0.lq.below) | (with_reducible exact QB.out _ D0.lq.below) | (with_reducible refine c_alloc _ ?_) | (with_reducible refine c_drew ?_) | (with_reducible refine c_set ?_ hgm ?_) | omega)))) (first | (go_at_call 53; (with_reducible refine (HS.out _ _ ?_).mono ?_); (· (first | (with_reducible refine D.getN ?_; (repeat (first | (with_reducible exact List.mem_cons_self) | apply List.mem_cons_of_mem))) | (with_reducible refine (D.box false none none 0 0 0 0).getN ?_; (repeat (first | (with_reducible exact List.mem_cons_self) | apply List.mem_cons_of_mem))) | (with_reducible refine (D0.box false none none 0 0 0 0).drew.getN ?_; (repeat (first | (with_reducible exact List.mem_cons_self) | apply List.mem_cons_of_mem))))); rintro e wh ⟨vh, rfl, iz, be⟩; (first | (replace D := (D.step be).z iz) | (replace D := ((D.boxM hmd false none none 0 0 0 0).step be).z iz) | (replace D := ((D.box false none none 0 0 0 0).step be).z iz)); have hz := be.size; (try simp at hz); (try (have x00 := D.lq.b0.c30; have x01 := D.lq.b0.c31; have x02 := D.lq.b0.c32; have y00 := D.lq.b0.fr 0; have y01 := D.lq.b0.fr 1; have y02 := D.lq.b0.fr 2)); (try obtain ⟨na, nb, nc, nd, nl⟩ := D.n0)) | (go_at_call 88; (with_reducible refine (HM.out _ _ _ ?_ ?_).mono ?_); (· (first | (with_reducible refine D.getZ ?_; (repeat (first | (with_reducible exact List.mem_cons_self) | apply List.mem_cons_of_mem))) | (with_reducible refine (D.box false none none 0 0 0 0).getZ ?_; (repeat (first | (with_reducible exact List.mem_cons_self) | apply List.mem_cons_of_mem))) | (with_reducible refine (D0.box false none none 0 0 0 0).drew.getZ ?_; (repeat (first | (with_reducible exact List.mem_cons_self) | apply List.mem_cons_of_mem))))); (· (first | (with_reducible refine D.getZ ?_; (repeat (first | (with_reducible exact List.mem_cons_self) | apply List.mem_cons_of_mem))) | (with_reducible refine (D.box false none none 0 0 0 0).getZ ?_; (repeat (first | (with_reducible exact List.mem_cons_self) | apply List.mem_cons_of_mem))) | (with_reducible refine (D0.box false none none 0 0 0 0).drew.getZ ?_; (repeat (first | (with_reducible exact List.mem_cons_self) | apply List.mem_cons_of_mem))))); rintro e wh ⟨vh, rfl, iq, be⟩; (first | (replace D := (D.step be).q iq) | (replace D := ((D.boxM hmd false none none 0 0 0 0).step be).q iq) | (replace D := ((D.box false none none 0 0 0 0).step be).q iq)); obtain ⟨A9, c9, B9, d9, rfl, _, _, _⟩ := iq.form; have hz := be.size; (try simp at hz); (try (have x00 := D.lq.b0.c30; have x01 := D.lq.b0.c31; have x02 := D.lq.b0.c32; have y00 := D.lq.b0.fr 0; have y01 := D.lq.b0.fr 1; have y02 := D.lq.b0.fr 2)); (try obtain ⟨na, nb, nc, nd, nl⟩ := D.n0)))
          all_goals
            go_wp2_with fail
            go_meet
            refine ⟨?_, rfl⟩
            first
            | ((with_reducible refine made1q_a D ?_) <;> (repeat (first | (with_reducible exact List.mem_cons_self) | apply List.mem_cons_of_mem)))
            | ((with_reducible refine made1q_b D ?_) <;> (repeat (first | (with_reducible exact List.mem_cons_self) | apply List.mem_cons_of_mem)))
        case rest =>
          obtain ⟨⟨g2, A3, c5, B3, d5, rfl, hg2, bw, hbx, hqq⟩, rfl⟩ := hcut
          have L := (LL.out.step bw).q hqq
          clear D D0 hmd hz0 hgm HN HZ HV QA QB
          generalize wc = wd at *
          have hne : w.heap.size + 1 ≠ g2 := by omega
          replace L := L.b hbx
          have q0 := L.b0.c30
          have q1 := L.b0.c31
          have q2 := L.b0.c32
          have r0 := L.tl.tl.b0.c30
          have r1 := L.tl.tl.b0.c31
          have r2 := L.tl.tl.b0.c32
          have s0 := L.tl.tl.b0.fr 0
          have s1 := L.tl.tl.b0.fr 1
          have s2 := L.tl.tl.b0.fr 2
          go_wp2_with fail
          have LP := L.pull2.putQ (by omega) (by first | (simp; done) | (simp; omega)) (ng rn) A3 B3 (zl rn) c5 (len rd) d5
          have k0 := LP.b0.c30
          have k1 := LP.b0.c31
          have k2 := LP.b0.c32
          unfold put3 at k0 k1 k2
          exact bodyPost_ret (v := .tuple #[.agg #[.bool (ng rn), .slice A3 (zl rn) c5, .slice B3 (len rd) d5], .bool true]) (by simp [results, Tryz.results43, go_sem, k0, k1, k2]) rfl ⟨_, _, _, _, rfl, LP.hq, hq.1, hq.2, fun _ => HQ.out, LP.below⟩

end Go.Proofs.YtpgiolbnmlbjbaaGreatDoor
