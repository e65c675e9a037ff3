/- The mill's Dyadic; the laws' pair of dyadics. -/
import Derived.Test.YtpgiolbnmlbjbaaGreatDoorRefDyC
import Derived.Test.YtpgiolbnmlbjbaaGreatDoorBaseJ
import Derived.Test.YtpgiolbnmlbjbaaGreatDoorBaseR
import Derived.Deep.RegionHeld3
import Derived.Deep.DrawnRows
import Derived.Deep.Cut
import Derived.Deep.CutRange
namespace Go.Proofs.YtpgiolbnmlbjbaaGreatDoor
open Go.RowKit
set_option linter.unusedVariables false
set_option linter.unusedSimpArgs false
set_option maxRecDepth 100000
attribute [local go_sem ↓] Go.wp_at_zero Go.wp_at_succ

/-- The parts of a valid dyadic. -/
def Dv (m e : Int) : Prop := (m = 0 ∧ e = 0) ∨ (m ≠ 0 ∧ fits8 m e = true)
theorem mk_ok {m e : Int} (h : mkR m e = 0) : Dv (mkM m e) (mkE m e) := by
  unfold mkM mkE
  by_cases h0 : m = 0
  · subst h0
    left
    rw [h, if_pos rfl, if_pos rfl, oddM_zero]
    exact ⟨rfl, rfl⟩
  · right
    rw [h, if_pos rfl, if_neg h0, if_pos rfl]
    refine ⟨fun h1 => ?_, ?_⟩
    · have := oddM_pos h0; rw [h1] at this; exact absurd this (by decide)
    · unfold mkR at h
      rw [if_neg h0] at h
      split at h
      · cases h
      · split at h
        · assumption
        · cases h
theorem zl_mk (m e : Int) : zl (mkM m e) ≤ zl m := by
  unfold mkM
  split
  · exact zl_odd m
  · rw [zl_zero]; omega
theorem mkE_le {m e : Int} {K : Nat} (h1 : -(K : Int) ≤ e) (h2 : e ≤ (K : Int)) : -(K : Int) ≤ mkE m e ∧ mkE m e ≤ (K : Int) + 32 * (zl m : Int) := by
  unfold mkE
  split
  · omega
  · next h0 =>
    split
    · unfold oddE
      have := tz_le8 m.natAbs (by omega)
      have e1 : zl m = len m.natAbs := rfl
      omega
    · omega
/-- A valid dyadic that is short enough, or what the mill left, and whether it is. -/
def RetMillD (w : World) (k K : Nat) (e : Ending) (w' : World) : Prop := ∃ v ok x f, e = .returned (.tuple #[v, .bool ok]) ∧ IsD w' v x f ∧ zl x ≤ k + 1 ∧ -(K : Int) ≤ f ∧ f ≤ (K : Int) + 32 * ((k : Int) + 1) ∧ (ok = true → Dv x f) ∧ Below w.heap.size w w'

set_option maxHeartbeats 4000000 in
theorem millD_any (b : Bool) (l : List Nat) (m K : Nat) (A : Option Addr) (n c : Nat) (e : Int) (w : World) (h : Sl w A n c l) (hm : m ≤ 10000) (hK : K ≤ 100000) (h1 : -9223372036854775808 ≤ e) (h2 : e ≤ 9223372036854775807) :
    Calls Tryz.prog 42 #[.agg #[.bool b, .slice A n c, .int .i64 e], .int .i64 (m : Int), .int .i64 (K : Int)] w (RetMillD w m K) := by
  have H1 := Lib.hid (fun W (hW : Below w.heap.size w W) => millZ_any b l m A n c W (h.mono hW) (by omega))
  have HD := Lib.hid (fun W => mod_any e (2 * (K : Int) + 1) W (by omega) (by omega) h1 h2)
  have hg1 : 0 ≤ e % (2 * (K : Int) + 1) := Int.emod_nonneg _ (by omega)
  have hg2 : e % (2 * (K : Int) + 1) < 2 * (K : Int) + 1 := Int.emod_lt_of_pos _ (by omega)
  obtain ⟨K2, hK2⟩ : ∃ K2 : Int, 2 * (K : Int) = K2 := ⟨_, rfl⟩
  obtain ⟨K3, hK3⟩ : ∃ K3 : Int, K2 + 1 = K3 := ⟨_, rfl⟩
  have hw1 : IntKind.i64.wrap (2 * (K : Int)) = K2 := by rw [IntKind.wrap_i64]; omega
  have hw2 : IntKind.i64.wrap (K2 + 1) = K3 := by rw [IntKind.wrap_i64]; omega
  rw [hK2, hK3] at HD hg1 hg2
  obtain ⟨r, hr⟩ : ∃ r, e % K3 = r := ⟨_, rfl⟩
  rw [hr] at HD hg1 hg2
  obtain ⟨G, hG⟩ : ∃ G : Int, r - (K : Int) = G := ⟨_, rfl⟩
  have hw3 : IntKind.i64.wrap (r - (K : Int)) = G := by rw [IntKind.wrap_i64]; omega
  have hG1 : -(K : Int) ≤ G := by omega
  have hG2 : G ≤ (K : Int) := by omega
  clear h hr hG hg1 hg2 hK2 hK3
  go_enter Tryz.func42, Tryz.ntmps42
  go_wp2_with fail
  have L := (((Lq.mk0 w).varD (w.heap.size) (by simp) b A n c e).varD (w.heap.size + 1) (by simp) false none 0 0 0)
  have c00 := L.b0.c30
  have f00 := L.b0.fr 0
  have c01 := L.b0.c31
  have f01 := L.b0.fr 1
  have c02 := L.b0.c32
  have f02 := L.b0.fr 2
  have c10 := L.tl.b0.c30
  have c11 := L.tl.b0.c31
  have c12 := L.tl.b0.c32
  refine (H1.out _ L.below).mono ?_
  rintro e w1 ⟨v1, ok1, z, rfl, iz, lz, be⟩
  clear c00 f00 c01 f01 c02 f02 c10 c11 c12
  replace L := (L.step be).z iz
  obtain ⟨A1, c1, rfl, in1⟩ := iz.form
  replace L := L.n in1
  clear be iz in1
  have hlt := L.b0.lt
  have c00 := L.b0.c30
  have f00 := L.b0.fr 0
  have c01 := L.b0.c31
  have f01 := L.b0.fr 1
  have c02 := L.b0.c32
  have f02 := L.b0.fr 2
  have c10 := L.tl.b0.c30
  have f10 := L.tl.b0.fr 0
  have c11 := L.tl.b0.c31
  have f11 := L.tl.b0.fr 1
  have c12 := L.tl.b0.c32
  have f12 := L.tl.b0.fr 2
  have LP0 := L.putD (by omega) (by first | (simp; done) | (simp; omega)) false none 0 0 0
  replace L := L.varZ w1.heap.size rfl (ng z) A1 (zl z) c1
  cases ok1
  · go_wp2_with fail
    have LP := LP0.varZ _ rfl (ng z) A1 (zl z) c1
    have k0 := LP.tl.b0.c30
    have k1 := LP.tl.b0.c31
    have k2 := LP.tl.b0.c32
    unfold put3 at k0 k1 k2
    exact bodyPost_ret (v := .tuple #[.agg #[.bool false, .slice none 0 0, .int .i64 0], .bool false]) (by simp [results, Tryz.results42, go_sem, k0, k1, k2]) rfl ⟨_, _, _, _, rfl, isD_zero _, by rw [zl_zero]; omega, by omega, by omega, fun h => (by cases h), LP.below⟩
  · clear LP0
    go_wp2_with fail
    obtain ⟨g, hg⟩ : ∃ g, w1.heap.size = g := ⟨_, rfl⟩
    rw [hg] at L hlt ⊢
    have hm0 := fun v W h => rmake8_any z G v W h (by omega)
    have lz2 := zl_mk z G
    have hE := mkE_le (m := z) hG1 hG2
    have HOK := Lib.hid (fun h => mk_ok (m := z) (e := G) h)
    generalize mkM z G = M at *
    generalize mkE z G = E at *
    generalize mkR z G = R at *
    have HM := Lib.hid hm0
    clear hm0
    have HZ := Lib.hid (L.getZ (v := .agg #[.bool (ng z), .slice A1 (zl z) c1]) (x := z) (by simp))
    obtain ⟨V, hV⟩ : ∃ V, w1.alloc (.cells #[.bool (ng z), .slice A1 (zl z) c1] 24) = V := ⟨_, rfl⟩
    rw [hV] at L HZ ⊢
    clear hV hg
    have Q0 := Lib.hid (fun Z (hZ : Below V.heap.size V Z) => (L.b0.mono hZ).c20)
    have Q1 := Lib.hid (fun Z (hZ : Below V.heap.size V Z) => (L.b0.mono hZ).c21)
    have Q2 := Lib.hid (fun Z (hZ : Below V.heap.size V Z) => (L.tl.tl.b0.mono hZ).c32)
    have hgm0 := L.b0.lt
    have LL := Lib.hid L
    clear L
    clear c00 f00 c01 f01 c02 f02 c10 f10 c11 f11 c12 f12
    have D0 : Dq V V [] [(.agg #[.bool (ng z), .slice A1 (zl z) c1], z)] [] [] := ⟨(Lq.mk0 V).z HZ.out, List.nodup_nil, fun p hp => by cases hp⟩
    have D := D0.drew
    obtain ⟨k, hk⟩ : ∃ k, V.heap.size = k := ⟨_, rfl⟩
    have hgm : g < k := by omega
    have hgx : w.heap.size < k := by omega
    have hz0 : k ≤ V.heap.size := by omega
    have hmd : V.drew.heap.size = k := hk
    go_cut [10, 11] from 23 to 34 (fun s5 s6 wx => Made1D V M E s5 wx ∧ s6 = .int .i64 R)
    case first =>
      go_region_held3 (fun w' => w'.cell? ⟨g, 0, none⟩ = some (.bool (ng z)) ∧ w'.cell? ⟨g, 1, none⟩ = some (.slice A1 (zl z) c1) ∧ w'.cell? ⟨w.heap.size, 2, none⟩ = some (.int .i64 e)) (((try dsimp only); refine ⟨?_, ?_, ?_⟩ <;> (repeat (first | (with_reducible exact Q0.out _ D.lq.below) | (with_reducible exact Q0.out _ D0.lq.below) | (with_reducible exact Q1.out _ D.lq.below) | (with_reducible exact Q1.out _ D0.lq.below) | (with_reducible exact Q2.out _ D.lq.below) | (with_reducible exact Q2.out _ D0.lq.below) | (with_reducible refine c_alloc _ ?_) | (with_reducible refine c_drew ?_) | (with_reducible refine c_set ?_ (by assumption) ?_) | omega)))) (first | (go_at_call 13; (with_reducible refine (HD.out _ ).mono ?_); rintro e9 wh ⟨rfl, rfl⟩; (try (have x00 := D.lq.b0.c30; have x01 := D.lq.b0.c31; have x02 := D.lq.b0.c32; have y00 := D.lq.b0.fr 0; have y01 := D.lq.b0.fr 1; have y02 := D.lq.b0.fr 2)); (try obtain ⟨na, nb, nc, nd, nl⟩ := D.n0)) | (go_at_call 15; (with_reducible refine (HM.out _ _ ?_ ).mono ?_); (· (first | (with_reducible refine D.getZ ?_; (repeat (first | (with_reducible exact List.mem_cons_self) | apply List.mem_cons_of_mem))) | (with_reducible refine (D.boxD false none 0 0 0).getZ ?_; (repeat (first | (with_reducible exact List.mem_cons_self) | apply List.mem_cons_of_mem))) | (with_reducible refine (D0.boxD false none 0 0 0).drew.getZ ?_; (repeat (first | (with_reducible exact List.mem_cons_self) | apply List.mem_cons_of_mem))))); rintro e9 wh ⟨vh, rfl, id, be⟩; obtain ⟨A9, c9, rfl, _, in9⟩ := id.form; (first | (replace D := (D.step be).n in9) | (replace D := ((D.boxMD hmd false none 0 0 0).step be).n in9) | (replace D := ((D.boxD false none 0 0 0).step be).n in9)); have hz := (be).size; (try simp at hz); (try (have x00 := D.lq.b0.c30; have x01 := D.lq.b0.c31; have x02 := D.lq.b0.c32; have y00 := D.lq.b0.fr 0; have y01 := D.lq.b0.fr 1; have y02 := D.lq.b0.fr 2)); (try obtain ⟨na, nb, nc, nd, nl⟩ := D.n0)))
      all_goals
        go_wp2_with fail
        go_meet
        refine ⟨?_, rfl⟩
        first
        | ((with_reducible refine made1d_a D ?_) <;> (repeat (first | (with_reducible exact List.mem_cons_self) | apply List.mem_cons_of_mem)))
        | ((with_reducible refine made1d_b D ?_) <;> (repeat (first | (with_reducible exact List.mem_cons_self) | apply List.mem_cons_of_mem)))
    case rest =>
      obtain ⟨⟨g2, A3, c5, rfl, hg2, bw, hbx, hqq⟩, rfl⟩ := hcut
      have L := (LL.out.step bw).n hqq
      clear D D0 hmd hz0 hgm hgx HZ Q0 Q1 Q2
      generalize wc = wd at *
      have hne : w.heap.size + 1 ≠ g2 := by omega
      replace L := L.b hbx
      have q0 := L.b0.c30
      have q1 := L.b0.c31
      have q2 := L.b0.c32
      have r0 := L.tl.tl.b0.c30
      have r1 := L.tl.tl.b0.c31
      have r2 := L.tl.tl.b0.c32
      have s0 := L.tl.tl.b0.fr 0
      have s1 := L.tl.tl.b0.fr 1
      have s2 := L.tl.tl.b0.fr 2
      go_wp2_with fail
      have LP := L.pull2.putD (by omega) (by first | (simp; done) | (simp; omega)) (ng M) A3 (zl M) c5 E
      have k0 := LP.b0.c30
      have k1 := LP.b0.c31
      have k2 := LP.b0.c32
      unfold put3 at k0 k1 k2
      exact bodyPost_ret (v := .tuple #[.agg #[.bool (ng M), .slice A3 (zl M) c5, .int .i64 E], .bool (R == 0)]) (by simp [results, Tryz.results42, go_sem, k0, k1, k2]) rfl ⟨_, _, _, _, rfl, isD_n LP.hn, by omega, by omega, by omega, fun h => HOK.out (by simpa using h), LP.below⟩

end Go.Proofs.YtpgiolbnmlbjbaaGreatDoor
