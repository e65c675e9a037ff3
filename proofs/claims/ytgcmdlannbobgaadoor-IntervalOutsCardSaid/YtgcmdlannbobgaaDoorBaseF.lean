/- Base texts, joined: RefRatA, RefRatB, RefRatC, MillRat. -/
import Derived.Test.YtgcmdlannbobgaaDoorBaseD
import Derived.Test.YtgcmdlannbobgaaDoorBaseS
import Derived.Test.YtgcmdlannbobgaaDoorBaseJ
import Derived.Deep.RegionHeld3
import Derived.Deep.DrawnRows
import Derived.Test.YtgcmdlannbobgaaDoorBaseR
import Derived.Deep.Cut
import Derived.Deep.CutRange
/- The reference's Lowest, Make, of, den, Of, Sign. -/
namespace Go.Proofs.YtgcmdlannbobgaaDoor
open Go.RowKit
set_option linter.unusedVariables false
set_option linter.unusedSimpArgs false
set_option maxRecDepth 100000
attribute [local go_sem ↓] Go.wp_at_zero Go.wp_at_succ

/-- Two naturals and true. -/
def Ret2N (w : World) (x y : Nat) (e : Ending) (w' : World) : Prop := ∃ v u, e = .returned (.tuple #[v, u, .bool true]) ∧ IsN w' v x ∧ IsN w' u y ∧ Below w.heap.size w w'
theorem len_div_le (x g : Nat) : len (x / g) ≤ len x := len_mono (Nat.div_le_self _ _)
end Go.Proofs.YtgcmdlannbobgaaDoor


/- The reference's den, Sign, Neg, Add, Mul, Sub, Cmp, Div. -/
namespace Go.Proofs.YtgcmdlannbobgaaDoor
open Go.RowKit
set_option linter.unusedVariables false
set_option linter.unusedSimpArgs false
set_option maxRecDepth 100000
attribute [local go_sem ↓] Go.wp_at_zero Go.wp_at_succ

set_option maxHeartbeats 2000000 in
theorem rneg7_any (a : Int) (d : Nat) (vx : Value) (w : World) (hx : IsP w vx a d) (la : zl a ≤ 100000000) :
    Calls Tryd.prog 112 #[vx] w (RetP w (-a) d) := by
  obtain ⟨A, c, B, g, rfl, hz, _, hd⟩ := hx.form
  have h1 := fun v W h => rzneg_any a v W h (by omega)
  have L0 := ((Lq.mk0 w).z hz).n hd
  obtain ⟨na, hna⟩ : ∃ na, -a = na := ⟨_, rfl⟩
  rw [hna] at h1 ⊢
  have H1 := Lib.hid h1
  clear hx hz hd h1 hna
  go_enter Tryd.func112, Tryd.ntmps112
  go_wp2_with fail
  have L := ((L0.varQ (w.heap.size) (by simp) (ng a) A B (zl a) c (len d) g).varQ (w.heap.size + 1) (by simp) false none none 0 0 0 0)
  replace L := L.drew
  have c00 := L.b0.c30
  have f00 := L.b0.fr 0
  have c01 := L.b0.c31
  have f01 := L.b0.fr 1
  have c02 := L.b0.c32
  have f02 := L.b0.fr 2
  have c10 := L.tl.b0.c30
  have c11 := L.tl.b0.c31
  have c12 := L.tl.b0.c32
  go_region_held3 (fun w' => w'.cell? ⟨w.heap.size, 0, none⟩ = some (.bool (ng a)) ∧ w'.cell? ⟨w.heap.size, 1, none⟩ = some (.slice A (zl a) c) ∧ w'.cell? ⟨w.heap.size, 2, none⟩ = some (.slice B (len d) g)) (first | (with_reducible exact ⟨L.tl.b0.c30, L.tl.b0.c31, L.tl.b0.c32⟩) | exact ⟨L.tl.b0.c30, L.tl.b0.c31, L.tl.b0.c32⟩ | (have LP := L.putQ (by omega) (by first | (simp; done) | (simp; omega)) (ng na) A9 B (zl na) c9 (len d) g; exact ⟨LP.tl.b0.c30, LP.tl.b0.c31, LP.tl.b0.c32⟩)) (first | (go_at_call 100; (with_reducible refine (H1.out _ _ ?_ ).mono ?_); (· (refine L.getZ ?_; (repeat (first | (with_reducible exact List.mem_cons_self) | apply List.mem_cons_of_mem)))); rintro e wh ⟨vh, rfl, iz, be⟩; replace L := (L.step be).z iz; obtain ⟨A9, c9, rfl, _⟩ := iz.form; clear be iz; (try (have x00 := L.b0.c30; have x01 := L.b0.c31; have x02 := L.b0.c32; have y00 := L.b0.fr 0; have y01 := L.b0.fr 1; have y02 := L.b0.fr 2))))
  clear c00 f00 c01 f01 c02 f02 c10 c11 c12
  go_wp2_with fail
  have LP := L.putQ (by omega) (by first | (simp; done) | (simp; omega)) (ng (na)) A9 B (zl (na)) c9 (len (d)) g
  have k0 := LP.b0.c30
  have k1 := LP.b0.c31
  have k2 := LP.b0.c32
  unfold put3 at k0 k1 k2
  exact bodyPost_ret (v := .agg #[.bool (ng (na)), .slice A9 (zl (na)) c9, .slice B (len (d)) g]) (by simp [results, Tryd.results112, go_sem, k0, k1, k2]) rfl ⟨_, rfl, isP_of LP.hz (LP.getN (by simp)), LP.below⟩
end Go.Proofs.YtgcmdlannbobgaaDoor


/- The reference's Div, Of, Same, Size, Sqrt; the mill's Rat. -/
namespace Go.Proofs.YtgcmdlannbobgaaDoor
open Go.RowKit
set_option linter.unusedVariables false
set_option linter.unusedSimpArgs false
set_option maxRecDepth 100000
attribute [local go_sem ↓] Go.wp_at_zero Go.wp_at_succ

set_option maxHeartbeats 1000000 in
theorem same7_yes (a : Int) (d : Nat) (vx vy : Value) (w : World) (hx : IsP w vx a d) (hy : IsP w vy a d) :
    Calls Tryd.prog 25 #[vx, vy] w (RetB w true) := by
  obtain ⟨A, c, B, g, rfl, hza, _, hna⟩ := hx.form
  obtain ⟨C, i, D, k, rfl, hzb, _, hnb⟩ := hy.form
  have L0 := ((((Lq.mk0 w).n hna).n hnb).z hza).z hzb
  clear hx hy hza hzb hna hnb
  go_enter Tryd.func25, Tryd.ntmps25
  go_wp2_with fail
  have L := ((L0.varQ (w.heap.size) (by simp) (ng a) A B (zl a) c (len d) g).varQ (w.heap.size + 1) (by simp) (ng a) C D (zl a) i (len d) k)
  have c00 := L.b0.c30
  have f00 := L.b0.fr 0
  have c01 := L.b0.c31
  have f01 := L.b0.fr 1
  have c02 := L.b0.c32
  have f02 := L.b0.fr 2
  have c10 := L.tl.b0.c30
  have c11 := L.tl.b0.c31
  have c12 := L.tl.b0.c32
  refine (zsame_yes a a _ _ _ (L.getZ (by simp)) (L.getZ (by simp)) rfl).mono ?_
  rintro e w1 ⟨rfl, be⟩
  clear c00 f00 c01 f01 c02 f02 c10 c11 c12
  replace L := L.step be
  clear be
  have c00 := L.b0.c30
  have f00 := L.b0.fr 0
  have c01 := L.b0.c31
  have f01 := L.b0.fr 1
  have c02 := L.b0.c32
  have f02 := L.b0.fr 2
  have c10 := L.tl.b0.c30
  have c11 := L.tl.b0.c31
  have c12 := L.tl.b0.c32
  go_wp2_with fail
  refine (same_yes d d _ _ _ (L.getN (by simp)) (L.getN (by simp)) rfl).mono ?_
  rintro e w' ⟨rfl, rfl⟩
  go_wp2_with fail
  go_ret
  exact ⟨rfl, L.below⟩

end Go.Proofs.YtgcmdlannbobgaaDoor


/- The mill's Rat. -/
namespace Go.Proofs.YtgcmdlannbobgaaDoor
open Go.RowKit
set_option linter.unusedVariables false
set_option linter.unusedSimpArgs false
set_option maxRecDepth 100000
attribute [local go_sem ↓] Go.wp_at_zero Go.wp_at_succ

/-- A valid fraction that is short enough, or a zero value, and whether it is. -/
def RetMillQ (w : World) (k : Nat) (e : Ending) (w' : World) : Prop := ∃ v ok a d, e = .returned (.tuple #[v, .bool ok]) ∧ IsP w' v a d ∧ zl a ≤ k + 1 ∧ len d ≤ k + 1 ∧ (ok = true → ∃ q : Rat, a = q.num ∧ d = q.den) ∧ Below w.heap.size w w'
theorem divInt_small (n : Int) (m : Nat) (k : Nat) (hn : zl n ≤ k) (hm : len m ≤ k) (h0 : 0 < m) : zl (Rat.divInt n (m : Int)).num ≤ k ∧ len (Rat.divInt n (m : Int)).den ≤ k := by
  obtain ⟨e1, e2⟩ := divInt_pair n (m : Int) (by omega)
  rw [e1, e2, zl_sg, Int.natAbs_natCast]
  exact ⟨Nat.le_trans (len_div_le _ _) hn, Nat.le_trans (len_div_le _ _) hm⟩

end Go.Proofs.YtgcmdlannbobgaaDoor

