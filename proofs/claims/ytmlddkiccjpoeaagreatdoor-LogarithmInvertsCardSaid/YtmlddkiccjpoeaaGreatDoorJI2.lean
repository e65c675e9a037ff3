/- Joined: ArPB, ArApp, ArPD, ArPF, ArDv, LnL, IvPD, IvPC, ArPHp, CpA, LnA, LnE, LnB, LnD (what the law leans on). -/
import Derived.Test.YtmlddkiccjpoeaaGreatDoorBaseDI
import Derived.Test.YtmlddkiccjpoeaaGreatDoorBaseEI
import Derived.Test.YtmlddkiccjpoeaaGreatDoorBaseVI
import Derived.Test.YtmlddkiccjpoeaaGreatDoorBaseGI
import Derived.Test.YtmlddkiccjpoeaaGreatDoorBaseWI
import Derived.Test.YtmlddkiccjpoeaaGreatDoorBaseXI
import Derived.Test.YtmlddkiccjpoeaaGreatDoorGrPCI
import Derived.Test.YtmlddkiccjpoeaaGreatDoorBaseZI
import Derived.Test.YtmlddkiccjpoeaaGreatDoorBaseUI
import Derived.Test.YtmlddkiccjpoeaaGreatDoorJI1
import Derived.Deep.Cut
import Derived.Deep.CutRange
import Derived.Deep.DrawnRows
import Derived.Deep.RegionHeld3
import Derived.Deep.RegionWith
import Derived.Laws.AppendOwn
import Derived.Laws.OwnMore
import Derived.Lib.SliceRun
import Derived.Lib.SmallJoins
namespace Go.Proofs.YtmlddkiccjpoeaaGreatDoor
open Go.RowKit
set_option linter.unusedVariables false
set_option linter.unusedSimpArgs false
set_option maxRecDepth 100000
attribute [local go_sem ↓] Go.wp_at_zero Go.wp_at_succ

set_option maxHeartbeats 16000000 in
theorem aenclR_any (a : Int) (d : Nat) (a2 : Int) (q : Nat) (k : Int) (vx vy : Value) (w : World) (hx : IsP w vx a d) (hy : IsP w vy a2 q) (la : zl a ≤ 800) (ld : len d ≤ 800) (hd : 0 < d) (lb : zl a2 ≤ 800) (lq : len q ≤ 800) (hq : 0 < q) (hw : workB k = true) (hT : Tab w) :
    Calls Tryz.prog 180 #[vx, vy, .int .i64 k, .func (.func 164) #[] #[], .func (.func 181) #[] #[]] w (RetEn w (Rat.divInt a (d : Int)) (Rat.divInt a2 (q : Int)) k) := by
  obtain ⟨wp, wk1, wk2⟩ := work_perm hw
  obtain ⟨A, c, B, i, rfl, _, _, _⟩ := hx.form
  obtain ⟨A', c', B', i', rfl, _, _, _⟩ := hy.form
  have L0 := ((Lq.mk0 w).q hy).q hx
  have y4 := zl_neg a2
  have y1 := zl_cut a d hd k
  have y2 := zl_cut (-a2) q hq k
  rw [← Rat.neg_divInt] at y2
  have f1 := fun v W h (hW : Below w.heap.size w W) => gfloorR_any a d k v W h (by omega) (by omega) hd (by omega) (by omega) (hT.mono hW)
  have f2 := fun v W h (hW : Below w.heap.size w W) => gceilR_any a2 q k v W h (by omega) (by omega) hq (by omega) (by omega) (hT.mono hW)
  obtain ⟨lo, hlo⟩ : ∃ lo, Rat.divInt a (d : Int) = lo := ⟨_, rfl⟩
  obtain ⟨hi, hhi⟩ : ∃ hi, Rat.divInt a2 (q : Int) = hi := ⟨_, rfl⟩
  rw [hlo] at f1 y1 ⊢
  rw [hhi] at f2 y2 ⊢
  have y3 := zl_neg (cutQ (-hi) k)
  have y5 := zl_mk (cutQ lo k) (-k)
  have y6 := zl_mk (-(cutQ (-hi) k)) (-k)
  rw [(g_yes wp (cutQ lo k)).1, (g_yes wp (cutQ lo k)).2.1, (g_yes wp (cutQ lo k)).2.2] at f1
  rw [(g_yes wp (-(cutQ (-hi) k))).1, (g_yes wp (-(cutQ (-hi) k))).2.1, (g_yes wp (-(cutQ (-hi) k))).2.2] at f2
  have hsm := Lib.hid (fun (q1 : mkR (cutQ lo k) (-k) = 0) (q2 : mkR (-(cutQ (-hi) k)) (-k) = 0) v W h => (show Calls Tryz.prog 39 #[v] W (RetB W (enB lo hi k)) from asmall_any (enM lo k) (enE lo k) (upM hi k) (upE hi k) v W h (by unfold enM; omega) (by unfold upM; omega) (by have := dv_bound (mk_ok q1); unfold enE; omega) (by have := dv_bound (mk_ok q2); unfold upE; omega) (mk_ok q1) (mk_ok q2)))
  have HRT := Lib.hid (show RetEn w lo hi k = if mkR (cutQ lo k) (-k) = 0 ∧ mkR (-(cutQ (-hi) k)) (-k) = 0 ∧ enB lo hi k = true then RetIE w (enM lo k) (enE lo k) (upM hi k) (upE hi k) 0 else RetIE w 0 0 0 0 3 from by unfold RetEn; rw [if_pos hw])
  unfold enM enE upM upE at hsm HRT
  have H1 := Lib.hid f1
  have H2 := Lib.hid f2
  clear f1 f2 hlo hhi y1 y2 y3 y4 y5 y6 wp hx hy la ld hd lb lq hq hw hT wk1 wk2
  generalize mkR (cutQ lo k) (-k) = R1 at *
  generalize mkR (-(cutQ (-hi) k)) (-k) = R2 at *
  generalize mkM (cutQ lo k) (-k) = M at *
  generalize mkE (cutQ lo k) (-k) = E at *
  generalize mkM (-(cutQ (-hi) k)) (-k) = N at *
  generalize mkE (-(cutQ (-hi) k)) (-k) = G at *
  generalize enB lo hi k = b at *
  cases hr1 : decide (R1 = 0)
  · replace hr1 := of_decide_eq_false hr1
    have e1 : (R1 != 0) = true := by simpa using hr1
    have e2 : (R1 == 0) = false := by simpa using hr1
    clear hsm
    go_enter Tryz.func180, Tryz.ntmps180
    go_wp2_with fail
    have L := (((L0.varQ (w.heap.size) (by simp) (ng a) A B (zl a) c (len d) i).varQ (w.heap.size + 1) (by simp) (ng a2) A' B' (zl a2) c' (len q) i').varI (w.heap.size + 2) (by simp) false none 0 0 0 false none 0 0 0)
    obtain ⟨gr, hgr⟩ : ∃ gr, w.heap.size + 1 + 1 = gr := ⟨_, rfl⟩
    have hgr2 : w.heap.size + 2 = gr := hgr
    rw [hgr2] at L
    rw [hgr]
    have hgw : w.heap.size + 1 < gr := by omega
    clear hgr hgr2
    have cel20 := L.tl.tl.b0.c30
    have cel21 := L.tl.tl.b0.c31
    have cel22 := L.tl.tl.b0.c32
    go_wp2_with fail
    refine (H1.out _ _ (L.getQ (v := .agg #[.bool (ng a), .slice A (zl a) c, .slice B (len d) i]) (a := a) (d := d) (by simp)) L.below).mono ?_
    rintro e w1 ⟨vv, rfl, id, be⟩
    clear cel20 cel21 cel22
    obtain ⟨A8, c8, rfl, _, in9⟩ := id.form
    replace L := (L.step be).n in9
    clear be id in9
    have hlg8 := L.b0.lt
    replace L := L.varD w1.heap.size rfl (ng M) A8 (zl M) c8 E
    have cel20 := L.tl.tl.b0.c30
    have cel21 := L.tl.tl.b0.c31
    have cel22 := L.tl.tl.b0.c32
    go_wp2_with fail
    obtain ⟨g8, hg⟩ : ∃ g, w1.heap.size = g := ⟨_, rfl⟩
    rw [hg] at L hlg8 ⊢
    clear hg
    refine (H2.out _ _ (L.getQ (v := .agg #[.bool (ng a2), .slice A' (zl a2) c', .slice B' (len q) i']) (a := a2) (d := q) (by simp)) L.below).mono ?_
    rintro e w2 ⟨vv, rfl, id, be⟩
    clear cel20 cel21 cel22
    obtain ⟨A9, c9, rfl, _, in9⟩ := id.form
    replace L := (L.step be).n in9
    clear be id in9
    have hl9 := L.b0.lt
    replace L := L.varD w2.heap.size rfl (ng N) A9 (zl N) c9 G
    have cel00 := L.b0.c30
    have cel01 := L.b0.c31
    have cel02 := L.b0.c32
    have cel10 := L.tl.b0.c30
    have cel11 := L.tl.b0.c31
    have cel12 := L.tl.b0.c32
    replace L := L.varI (w2.heap.size + 1) (by simp) (ng M) A8 (zl M) c8 E (ng N) A9 (zl N) c9 G
    have cem00 := L.b0.c60
    have cem01 := L.b0.c61
    have cem02 := L.b0.c62
    have cem03 := L.b0.c63
    have cem04 := L.b0.c64
    have cem05 := L.b0.c65
    have R := L.pick [(gr, 28, #[.bool false, .slice none 0 0, .int .i64 0, .bool false, .slice none 0 0, .int .i64 0])] (by simp)
    have r0 := R.b0.c60
    have s0 := R.b0.fr 0
    have r1 := R.b0.c61
    have s1 := R.b0.fr 1
    have r2 := R.b0.c62
    have s2 := R.b0.fr 2
    have r3 := R.b0.c63
    have s3 := R.b0.fr 3
    have r4 := R.b0.c64
    have s4 := R.b0.fr 4
    have r5 := R.b0.c65
    have s5 := R.b0.fr 5
    go_wp2_with fail
    have LP := R.putI (by omega) (by simp) false none 0 0 0 false none 0 0 0
    have k0' := LP.b0.c60
    have k1' := LP.b0.c61
    have k2' := LP.b0.c62
    have k3' := LP.b0.c63
    have k4' := LP.b0.c64
    have k5' := LP.b0.c65
    unfold put6 at k0' k1' k2' k3' k4' k5'
    exact bodyPost_ret (v := .tuple #[.agg #[.bool false, .slice none 0 0, .int .i64 0, .bool false, .slice none 0 0, .int .i64 0], .int .i64 3]) (by simp [results, Tryz.results180, go_sem, k0', k1', k2', k3', k4', k5']) rfl (by rw [HRT.out, if_neg (fun h => hr1 h.1)]; exact ⟨_, rfl, isI_zero _, LP.below⟩)
  · obtain rfl := of_decide_eq_true hr1
    have HR1 := Lib.hid (rfl : (0 : Int) = 0)
    clear hr1
    cases hr2 : decide (R2 = 0)
    · replace hr2 := of_decide_eq_false hr2
      have e1 : (R2 != 0) = true := by simpa using hr2
      have e2 : (R2 == 0) = false := by simpa using hr2
      clear hsm
      go_enter Tryz.func180, Tryz.ntmps180
      go_wp2_with fail
      have L := (((L0.varQ (w.heap.size) (by simp) (ng a) A B (zl a) c (len d) i).varQ (w.heap.size + 1) (by simp) (ng a2) A' B' (zl a2) c' (len q) i').varI (w.heap.size + 2) (by simp) false none 0 0 0 false none 0 0 0)
      obtain ⟨gr, hgr⟩ : ∃ gr, w.heap.size + 1 + 1 = gr := ⟨_, rfl⟩
      have hgr2 : w.heap.size + 2 = gr := hgr
      rw [hgr2] at L
      rw [hgr]
      have hgw : w.heap.size + 1 < gr := by omega
      clear hgr hgr2
      have cel20 := L.tl.tl.b0.c30
      have cel21 := L.tl.tl.b0.c31
      have cel22 := L.tl.tl.b0.c32
      go_wp2_with fail
      refine (H1.out _ _ (L.getQ (v := .agg #[.bool (ng a), .slice A (zl a) c, .slice B (len d) i]) (a := a) (d := d) (by simp)) L.below).mono ?_
      rintro e w1 ⟨vv, rfl, id, be⟩
      clear cel20 cel21 cel22
      obtain ⟨A8, c8, rfl, _, in9⟩ := id.form
      replace L := (L.step be).n in9
      clear be id in9
      have hlg8 := L.b0.lt
      replace L := L.varD w1.heap.size rfl (ng M) A8 (zl M) c8 E
      have cel20 := L.tl.tl.b0.c30
      have cel21 := L.tl.tl.b0.c31
      have cel22 := L.tl.tl.b0.c32
      go_wp2_with fail
      obtain ⟨g8, hg⟩ : ∃ g, w1.heap.size = g := ⟨_, rfl⟩
      rw [hg] at L hlg8 ⊢
      clear hg
      refine (H2.out _ _ (L.getQ (v := .agg #[.bool (ng a2), .slice A' (zl a2) c', .slice B' (len q) i']) (a := a2) (d := q) (by simp)) L.below).mono ?_
      rintro e w2 ⟨vv, rfl, id, be⟩
      clear cel20 cel21 cel22
      obtain ⟨A9, c9, rfl, _, in9⟩ := id.form
      replace L := (L.step be).n in9
      clear be id in9
      have hl9 := L.b0.lt
      replace L := L.varD w2.heap.size rfl (ng N) A9 (zl N) c9 G
      have cel00 := L.b0.c30
      have cel01 := L.b0.c31
      have cel02 := L.b0.c32
      have cel10 := L.tl.b0.c30
      have cel11 := L.tl.b0.c31
      have cel12 := L.tl.b0.c32
      replace L := L.varI (w2.heap.size + 1) (by simp) (ng M) A8 (zl M) c8 E (ng N) A9 (zl N) c9 G
      have cem00 := L.b0.c60
      have cem01 := L.b0.c61
      have cem02 := L.b0.c62
      have cem03 := L.b0.c63
      have cem04 := L.b0.c64
      have cem05 := L.b0.c65
      have R := L.pick [(gr, 28, #[.bool false, .slice none 0 0, .int .i64 0, .bool false, .slice none 0 0, .int .i64 0])] (by simp)
      have r0 := R.b0.c60
      have s0 := R.b0.fr 0
      have r1 := R.b0.c61
      have s1 := R.b0.fr 1
      have r2 := R.b0.c62
      have s2 := R.b0.fr 2
      have r3 := R.b0.c63
      have s3 := R.b0.fr 3
      have r4 := R.b0.c64
      have s4 := R.b0.fr 4
      have r5 := R.b0.c65
      have s5 := R.b0.fr 5
      go_wp2_with fail
      have LP := R.putI (by omega) (by simp) false none 0 0 0 false none 0 0 0
      have k0' := LP.b0.c60
      have k1' := LP.b0.c61
      have k2' := LP.b0.c62
      have k3' := LP.b0.c63
      have k4' := LP.b0.c64
      have k5' := LP.b0.c65
      unfold put6 at k0' k1' k2' k3' k4' k5'
      exact bodyPost_ret (v := .tuple #[.agg #[.bool false, .slice none 0 0, .int .i64 0, .bool false, .slice none 0 0, .int .i64 0], .int .i64 3]) (by simp [results, Tryz.results180, go_sem, k0', k1', k2', k3', k4', k5']) rfl (by rw [HRT.out, if_neg (fun h => hr2 h.2.1)]; exact ⟨_, rfl, isI_zero _, LP.below⟩)
    · obtain rfl := of_decide_eq_true hr2
      have HR2 := Lib.hid (rfl : (0 : Int) = 0)
      have HS := Lib.hid (hsm.out rfl rfl)
      clear hr2 hsm
      go_enter Tryz.func180, Tryz.ntmps180
      go_wp2_with fail
      have L := (((L0.varQ (w.heap.size) (by simp) (ng a) A B (zl a) c (len d) i).varQ (w.heap.size + 1) (by simp) (ng a2) A' B' (zl a2) c' (len q) i').varI (w.heap.size + 2) (by simp) false none 0 0 0 false none 0 0 0)
      obtain ⟨gr, hgr⟩ : ∃ gr, w.heap.size + 1 + 1 = gr := ⟨_, rfl⟩
      have hgr2 : w.heap.size + 2 = gr := hgr
      rw [hgr2] at L
      rw [hgr]
      have hgw : w.heap.size + 1 < gr := by omega
      clear hgr hgr2
      have cel20 := L.tl.tl.b0.c30
      have cel21 := L.tl.tl.b0.c31
      have cel22 := L.tl.tl.b0.c32
      go_wp2_with fail
      refine (H1.out _ _ (L.getQ (v := .agg #[.bool (ng a), .slice A (zl a) c, .slice B (len d) i]) (a := a) (d := d) (by simp)) L.below).mono ?_
      rintro e w1 ⟨vv, rfl, id, be⟩
      clear cel20 cel21 cel22
      obtain ⟨A8, c8, rfl, _, in9⟩ := id.form
      replace L := (L.step be).n in9
      clear be id in9
      have hlg8 := L.b0.lt
      replace L := L.varD w1.heap.size rfl (ng M) A8 (zl M) c8 E
      have cel20 := L.tl.tl.b0.c30
      have cel21 := L.tl.tl.b0.c31
      have cel22 := L.tl.tl.b0.c32
      go_wp2_with fail
      obtain ⟨g8, hg⟩ : ∃ g, w1.heap.size = g := ⟨_, rfl⟩
      rw [hg] at L hlg8 ⊢
      clear hg
      refine (H2.out _ _ (L.getQ (v := .agg #[.bool (ng a2), .slice A' (zl a2) c', .slice B' (len q) i']) (a := a2) (d := q) (by simp)) L.below).mono ?_
      rintro e w2 ⟨vv, rfl, id, be⟩
      clear cel20 cel21 cel22
      obtain ⟨A9, c9, rfl, _, in9⟩ := id.form
      replace L := (L.step be).n in9
      clear be id in9
      have hl9 := L.b0.lt
      replace L := L.varD w2.heap.size rfl (ng N) A9 (zl N) c9 G
      have cel00 := L.b0.c30
      have cel01 := L.b0.c31
      have cel02 := L.b0.c32
      have cel10 := L.tl.b0.c30
      have cel11 := L.tl.b0.c31
      have cel12 := L.tl.b0.c32
      replace L := L.varI (w2.heap.size + 1) (by simp) (ng M) A8 (zl M) c8 E (ng N) A9 (zl N) c9 G
      have cem00 := L.b0.c60
      have cem01 := L.b0.c61
      have cem02 := L.b0.c62
      have cem03 := L.b0.c63
      have cem04 := L.b0.c64
      have cem05 := L.b0.c65
      go_wp2_with fail
      refine (HS.out _ _ (isI_n (s := .slice A8 (zl M) c8) (t := .slice A9 (zl N) c9) (L.getN (by simp)) (L.getN (by simp)))).mono ?_
      rintro e w3 ⟨rfl, be⟩
      clear cem00 cem01 cem02 cem03 cem04 cem05 cel00 cel01 cel02 cel10 cel11 cel12
      replace L := L.step be
      clear be
      cases b
      · skip
        have cel00 := L.b0.c60
        have cel01 := L.b0.c61
        have cel02 := L.b0.c62
        have cel03 := L.b0.c63
        have cel04 := L.b0.c64
        have cel05 := L.b0.c65
        have R := L.pick [(gr, 28, #[.bool false, .slice none 0 0, .int .i64 0, .bool false, .slice none 0 0, .int .i64 0])] (by simp)
        have r0 := R.b0.c60
        have s0 := R.b0.fr 0
        have r1 := R.b0.c61
        have s1 := R.b0.fr 1
        have r2 := R.b0.c62
        have s2 := R.b0.fr 2
        have r3 := R.b0.c63
        have s3 := R.b0.fr 3
        have r4 := R.b0.c64
        have s4 := R.b0.fr 4
        have r5 := R.b0.c65
        have s5 := R.b0.fr 5
        go_wp2_with fail
        have LP := R.putI (by omega) (by simp) false none 0 0 0 false none 0 0 0
        have k0' := LP.b0.c60
        have k1' := LP.b0.c61
        have k2' := LP.b0.c62
        have k3' := LP.b0.c63
        have k4' := LP.b0.c64
        have k5' := LP.b0.c65
        unfold put6 at k0' k1' k2' k3' k4' k5'
        exact bodyPost_ret (v := .tuple #[.agg #[.bool false, .slice none 0 0, .int .i64 0, .bool false, .slice none 0 0, .int .i64 0], .int .i64 3]) (by simp [results, Tryz.results180, go_sem, k0', k1', k2', k3', k4', k5']) rfl (by rw [HRT.out, if_neg (fun h => (by cases h.2.2))]; exact ⟨_, rfl, isI_zero _, LP.below⟩)
      · skip
        have cel00 := L.b0.c60
        have cel01 := L.b0.c61
        have cel02 := L.b0.c62
        have cel03 := L.b0.c63
        have cel04 := L.b0.c64
        have cel05 := L.b0.c65
        have R := L.pick [(gr, 28, #[.bool false, .slice none 0 0, .int .i64 0, .bool false, .slice none 0 0, .int .i64 0])] (by simp)
        have r0 := R.b0.c60
        have s0 := R.b0.fr 0
        have r1 := R.b0.c61
        have s1 := R.b0.fr 1
        have r2 := R.b0.c62
        have s2 := R.b0.fr 2
        have r3 := R.b0.c63
        have s3 := R.b0.fr 3
        have r4 := R.b0.c64
        have s4 := R.b0.fr 4
        have r5 := R.b0.c65
        have s5 := R.b0.fr 5
        go_wp2_with fail
        have LP := R.putI (by omega) (by simp) (ng M) A8 (zl M) c8 E (ng N) A9 (zl N) c9 G
        have k0' := LP.b0.c60
        have k1' := LP.b0.c61
        have k2' := LP.b0.c62
        have k3' := LP.b0.c63
        have k4' := LP.b0.c64
        have k5' := LP.b0.c65
        unfold put6 at k0' k1' k2' k3' k4' k5'
        exact bodyPost_ret (v := .tuple #[.agg #[.bool (ng M), .slice A8 (zl M) c8, .int .i64 E, .bool (ng N), .slice A9 (zl N) c9, .int .i64 G], .int .i64 0]) (by simp [results, Tryz.results180, go_sem, k0', k1', k2', k3', k4', k5']) rfl (by rw [HRT.out, if_pos ⟨HR1.out, HR2.out, by first | trivial | rfl⟩]; exact ⟨_, rfl, isI_n (LP.getN (by simp)) (LP.getN (by simp)), LP.below⟩)

/-- No cell of a block is a digit of a natural. -/
def NoDig (w : World) (g : Nat) : Prop := ∀ (j : Nat) (x : Int), w.cell? ⟨g, j, none⟩ ≠ some (.int .u32 x)
def OwnC (w : World) (B : Nat) (e : TypeId) (v : Value) (n : Nat) (xs : List Value) : Prop := w.ownsRow B e 3 v n xs ∧ ∀ g, v.ownBlock = some g → NoDig w g
theorem IsN.kept {w w' : World} {row : Option Nat} {v : Value} {x : Nat} (h : IsN w v x) (hg : w.grownBy w' row) (hn : ∀ g, row = some g → NoDig w g) : IsN w' v x := by
  obtain ⟨A, n, c, e, hs⟩ := h
  refine ⟨A, n, c, e, hs.len, hs.cap, hs.most, hs.small, fun hp => ?_⟩
  obtain ⟨b, off, h1, h2, h3⟩ := hs.place hp
  have hne : some b ≠ row := fun he => hn b he.symm (off + 0) _ (h3 0 hp)
  exact ⟨b, off, h1, Nat.lt_of_lt_of_le h2 hg.size, fun j hj => hg.cell (a := ⟨b, off + j, none⟩) (h3 j hj) hne⟩
theorem IsP.kept {w w' : World} {row : Option Nat} {v : Value} {a : Int} {d : Nat} (h : IsP w v a d) (hg : w.grownBy w' row) (hn : ∀ g, row = some g → NoDig w g) : IsP w' v a d := by
  obtain ⟨s, t, e, h1, h2⟩ := h
  exact ⟨s, t, e, h1.kept hg hn, h2.kept hg hn⟩
theorem OwnC.nil (w : World) (B : Nat) (e : TypeId) : OwnC w B e (.slice none 0 0) 0 [] := ⟨World.ownsRow_nil w B e 3, fun g h => by cases h⟩
theorem OwnC.below {w w' : World} {B n : Nat} {e : TypeId} {v : Value} {xs : List Value} (h : OwnC w B e v n xs) (hb : Below w.heap.size w w') : OwnC w' B e v n xs := by
  obtain ⟨h0, hd⟩ := h
  have hlt := h0.lt
  obtain ⟨h1, h2⟩ := h0
  refine ⟨⟨h1, ?_⟩, fun g hg j x hc => hd g hg j x ?_⟩
  · rcases h2 with h2 | ⟨g, cap, cur, e1, e2, e3, e4⟩
    · exact .inl h2
    · refine .inr ⟨g, cap, cur, e1, e2, ?_, e4⟩
      rw [hb.block g (hlt g (by rw [e1]; rfl)).2]; exact e3
  · rw [← hb.cell (p := ⟨g, j, none⟩) (hlt g hg).2]; exact hc
theorem OwnC.blockGe {w : World} {B n : Nat} {e : TypeId} {v : Value} {xs : List Value} (h : OwnC w B e v n xs) : ∀ g, v.ownBlock = some g → B ≤ g := fun g hg => (h.1.lt g hg).1
def OwnDy (w : World) (B : Nat) (v : Value) (l : List (Int × Int)) : Prop := ∃ xs, OwnC w B 26 v l.length xs ∧ ∀ (j : Nat) (p : Int × Int), l[j]? = some p → ∃ A c, xs[3 * j]? = some (.bool (ng p.1)) ∧ xs[3 * j + 1]? = some (.slice A (zl p.1) c) ∧ xs[3 * j + 2]? = some (.int .i64 p.2) ∧ IsN w (.slice A (zl p.1) c) p.1.natAbs
theorem OwnDy.nil (w : World) (B : Nat) : OwnDy w B (.slice none 0 0) [] := ⟨[], OwnC.nil w B _, fun j p h => by simp at h⟩
theorem OwnDy.below {w w' : World} {B : Nat} {v : Value} {l : List (Int × Int)} (h : OwnDy w B v l) (hb : Below w.heap.size w w') : OwnDy w' B v l := by
  obtain ⟨xs, h1, h2⟩ := h
  refine ⟨xs, h1.below hb, fun j p hp => ?_⟩
  obtain ⟨A, c, a1, a2, a3, a4⟩ := h2 j p hp
  exact ⟨A, c, a1, a2, a3, a4.mono hb⟩
theorem OwnDy.blockGe {w : World} {B : Nat} {v : Value} {l : List (Int × Int)} (h : OwnDy w B v l) : ∀ g, v.ownBlock = some g → B ≤ g := by
  obtain ⟨xs, h1, h2⟩ := h
  exact h1.blockGe
theorem OwnDy.row {w : World} {B : Nat} {v : Value} {l : List (Int × Int)} (h : OwnDy w B v l) (h0 : 0 < l.length) : RowD w v l := by
  obtain ⟨xs, h1, h2⟩ := h
  obtain ⟨g, cap, rfl⟩ := Go.Joins.ownsRow_form h1.1 (by omega)
  refine ⟨g, cap, rfl, (h1.1.lt g rfl).2, fun j p hp => ?_⟩
  obtain ⟨A, c, a1, a2, a3, a4⟩ := h2 j p hp
  have hj : j < l.length := by
    rcases Nat.lt_or_ge j l.length with h | h
    · exact h
    · rw [List.getElem?_eq_none h] at hp; cases hp
  exact ⟨A, c, by rw [h1.1.cellAt _ (by omega)]; exact a1, by rw [h1.1.cellAt _ (by omega)]; exact a2, by rw [h1.1.cellAt _ (by omega)]; exact a3, a4⟩
def OwnRa (w : World) (B : Nat) (v : Value) (l : List (Int × Nat)) : Prop := ∃ xs, OwnC w B 53 v l.length xs ∧ ∀ (j : Nat) (p : Int × Nat), l[j]? = some p → ∃ A c B k, xs[3 * j]? = some (.bool (ng p.1)) ∧ xs[3 * j + 1]? = some (.slice A (zl p.1) c) ∧ xs[3 * j + 2]? = some (.slice B (len p.2) k) ∧ IsP w (.agg #[.bool (ng p.1), .slice A (zl p.1) c, .slice B (len p.2) k]) p.1 p.2
theorem OwnRa.nil (w : World) (B : Nat) : OwnRa w B (.slice none 0 0) [] := ⟨[], OwnC.nil w B _, fun j p h => by simp at h⟩
theorem OwnRa.below {w w' : World} {B : Nat} {v : Value} {l : List (Int × Nat)} (h : OwnRa w B v l) (hb : Below w.heap.size w w') : OwnRa w' B v l := by
  obtain ⟨xs, h1, h2⟩ := h
  refine ⟨xs, h1.below hb, fun j p hp => ?_⟩
  obtain ⟨A, c, B, k, a1, a2, a3, a4⟩ := h2 j p hp
  exact ⟨A, c, B, k, a1, a2, a3, a4.mono hb⟩
theorem OwnRa.blockGe {w : World} {B : Nat} {v : Value} {l : List (Int × Nat)} (h : OwnRa w B v l) : ∀ g, v.ownBlock = some g → B ≤ g := by
  obtain ⟨xs, h1, h2⟩ := h
  exact h1.blockGe
theorem OwnRa.row {w : World} {B : Nat} {v : Value} {l : List (Int × Nat)} (h : OwnRa w B v l) (h0 : 0 < l.length) : RowR w v l := by
  obtain ⟨xs, h1, h2⟩ := h
  obtain ⟨g, cap, rfl⟩ := Go.Joins.ownsRow_form h1.1 (by omega)
  refine ⟨g, cap, rfl, (h1.1.lt g rfl).2, fun j p hp => ?_⟩
  obtain ⟨A, c, B, k, a1, a2, a3, a4⟩ := h2 j p hp
  have hj : j < l.length := by
    rcases Nat.lt_or_ge j l.length with h | h
    · exact h
    · rw [List.getElem?_eq_none h] at hp; cases hp
  exact ⟨A, c, B, k, by rw [h1.1.cellAt _ (by omega)]; exact a1, by rw [h1.1.cellAt _ (by omega)]; exact a2, by rw [h1.1.cellAt _ (by omega)]; exact a3, a4⟩
/-- A slice of pairs of dyadics: what its elements stand for. -/
def RowI (w : World) (v : Value) (l : List (Int × Int × Int × Int)) : Prop := ∃ g c, v = .slice (some ⟨g, 0, none⟩) l.length c ∧ g < w.heap.size ∧ ∀ (j : Nat) (p : Int × Int × Int × Int), l[j]? = some p → ∃ A c B d, w.cell? ⟨g, 6 * j, none⟩ = some (.bool (ng p.1)) ∧ w.cell? ⟨g, 6 * j + 1, none⟩ = some (.slice A (zl p.1) c) ∧ w.cell? ⟨g, 6 * j + 2, none⟩ = some (.int .i64 p.2.1) ∧ w.cell? ⟨g, 6 * j + 3, none⟩ = some (.bool (ng p.2.2.1)) ∧ w.cell? ⟨g, 6 * j + 4, none⟩ = some (.slice B (zl p.2.2.1) d) ∧ w.cell? ⟨g, 6 * j + 5, none⟩ = some (.int .i64 p.2.2.2) ∧ IsN w (.slice A (zl p.1) c) p.1.natAbs ∧ IsN w (.slice B (zl p.2.2.1) d) p.2.2.1.natAbs
theorem RowI.at {w w' : World} {g c n : Nat} {l : List (Int × Int × Int × Int)} (h : RowI w (.slice (some ⟨g, 0, none⟩) n c) l) (hb : Below w.heap.size w w') {j : Nat} {p : Int × Int × Int × Int} (hp : l[j]? = some p) : ∃ A c B d, w'.cell? ⟨g, 6 * j, none⟩ = some (.bool (ng p.1)) ∧ w'.cell? ⟨g, 6 * j + 1, none⟩ = some (.slice A (zl p.1) c) ∧ w'.cell? ⟨g, 6 * j + 2, none⟩ = some (.int .i64 p.2.1) ∧ w'.cell? ⟨g, 6 * j + 3, none⟩ = some (.bool (ng p.2.2.1)) ∧ w'.cell? ⟨g, 6 * j + 4, none⟩ = some (.slice B (zl p.2.2.1) d) ∧ w'.cell? ⟨g, 6 * j + 5, none⟩ = some (.int .i64 p.2.2.2) ∧ IsN w' (.slice A (zl p.1) c) p.1.natAbs ∧ IsN w' (.slice B (zl p.2.2.1) d) p.2.2.1.natAbs := by
  obtain ⟨g', c', r, hg, h⟩ := h
  simp only [Value.slice.injEq, Option.some.injEq, Addr.mk.injEq, and_true] at r
  obtain ⟨rfl, _, _⟩ := r
  obtain ⟨A, c, B, d, h0, h1, h2, h3, h4, h5, h6, h7⟩ := h j p hp
  exact ⟨A, c, B, d, (hb.cell (p := ⟨g, 6 * j, none⟩) hg).trans h0, (hb.cell (p := ⟨g, 6 * j + 1, none⟩) hg).trans h1, (hb.cell (p := ⟨g, 6 * j + 2, none⟩) hg).trans h2, (hb.cell (p := ⟨g, 6 * j + 3, none⟩) hg).trans h3, (hb.cell (p := ⟨g, 6 * j + 4, none⟩) hg).trans h4, (hb.cell (p := ⟨g, 6 * j + 5, none⟩) hg).trans h5, h6.mono hb, h7.mono hb⟩
/-- The quotient of two dyadics as a pair. -/
def qtA (m e n f : Int) : Int := if m = 0 then 0 else (Rat.divInt m n).num * 2 ^ (e - f).toNat
def qtD (m e n f : Int) : Nat := if m = 0 then 1 else (Rat.divInt m n).den * 2 ^ (f - e).toNat
theorem qt_pos (m e n f : Int) : 0 < qtD m e n f := by
  unfold qtD
  split
  · omega
  · exact Nat.mul_pos (Rat.den_pos _) (Nat.pow_pos (by omega))
theorem dq_pow (m e : Int) : dq m e = (m : Rat) * dq 1 e := dq_scale m e
theorem dq_one_sub (e f : Int) : dq 1 (e - f) * dq 1 f = dq 1 e := by
  rw [← dq_mul, Int.mul_one]
  congr 1
  omega
theorem divInt_mul_r (a : Int) (d : Nat) (x y : Nat) (hx : 0 < x) (hy : 0 < y) (hd : 0 < d) : Rat.divInt (a * (x : Int)) ((d * y : Nat) : Int) = Rat.divInt a (d : Int) * Rat.divInt (x : Int) (y : Int) := by
  rw [Rat.divInt_mul_divInt]
  congr 1
theorem qt_val {m e n f : Int} (hn : n ≠ 0) : Rat.divInt (qtA m e n f) (qtD m e n f : Int) = dq m e / dq n f := by
  have hn0 : (n : Rat) ≠ 0 := fun h => hn (Rat.intCast_eq_zero_iff.1 h)
  have hp := dq_pos f
  have hpn : dq 1 f ≠ 0 := fun h => by rw [h] at hp; exact Rat.not_le.2 hp Rat.le_refl
  by_cases h0 : m = 0
  · unfold qtA qtD
    rw [if_pos h0, if_pos h0, h0, dq_pow 0 e, Rat.intCast_zero, Rat.zero_mul, Rat.div_def, Rat.zero_mul]
    rfl
  · unfold qtA qtD
    rw [if_neg h0, if_neg h0]
    have e1 : (2 : Int) ^ (e - f).toNat = ((2 ^ (e - f).toNat : Nat) : Int) := (cast2 _).symm
    rw [e1, divInt_mul_r _ _ _ _ (Nat.pow_pos (by omega)) (Nat.pow_pos (by omega)) (Rat.den_pos _), Rat.num_divInt_den]
    have e2 : Rat.divInt ((2 ^ (e - f).toNat : Nat) : Int) ((2 ^ (f - e).toNat : Nat) : Int) = dq 1 (e - f) := by
      unfold dq
      rw [Int.one_mul, cast2, show -(e - f) = f - e from by omega]
    rw [e2, dq_pow m e, dq_pow n f, ← dq_one_sub e f, Rat.div_def, Rat.inv_mul_rev]
    have e3 : Rat.divInt m n = (m : Rat) * (n : Rat)⁻¹ := by rw [← Rat.div_def]; exact Rat.divInt_eq_div m n
    rw [e3]
    have e4 : dq 1 f * (dq 1 f)⁻¹ = 1 := Rat.mul_inv_cancel _ hpn
    rw [show (m : Rat) * (dq 1 (e - f) * dq 1 f) * ((dq 1 f)⁻¹ * (n : Rat)⁻¹) = (m : Rat) * (dq 1 (e - f) * (dq 1 f * (dq 1 f)⁻¹) * (n : Rat)⁻¹) from by simp only [Rat.mul_assoc], e4, Rat.mul_one, Rat.mul_assoc, Rat.mul_comm (n : Rat)⁻¹]
theorem qt_low {m n : Int} (hn : n ≠ 0) : zl (Rat.divInt m n).num ≤ zl m ∧ len (Rat.divInt m n).den ≤ zl n := by
  obtain ⟨e1, e2⟩ := divInt_pair m n hn
  constructor
  · unfold zl
    rw [e1]
    exact len_mono (by rw [sg_abs]; exact Nat.div_le_self _ _)
  · unfold zl
    rw [e2]
    exact len_mono (Nat.div_le_self _ _)
theorem qt_small {m e n f : Int} (hn : n ≠ 0) (lm : zl m ≤ 140) (ln : zl n ≤ 140) (he : -4500 ≤ e ∧ e ≤ 4500) (hf : -4500 ≤ f ∧ f ≤ 4500) : zl (qtA m e n f) ≤ 800 ∧ len (qtD m e n f) ≤ 800 := by
  obtain ⟨h1, h2⟩ := qt_low (m := m) hn
  unfold qtA qtD
  constructor
  · split
    · rw [zl_zero]; omega
    · have := zl_two (Rat.divInt m n).num (e - f).toNat
      omega
  · split
    · have := len_le1 (show 1 < 4294967296 by omega)
      omega
    · have h3 := len_mul (Rat.divInt m n).den (2 ^ (f - e).toNat)
      have h4 := len_two (f - e).toNat
      omega

set_option maxHeartbeats 4000000 in
theorem anum_any (z e : Int) (vx : Value) (w : World) (hx : IsZ w vx z) (lz : zl z ≤ 1000) (he : -20000 ≤ e ∧ e ≤ 20000) :
    Calls Tryz.prog 198 #[vx, .int .i64 e] w (RetZ w (z * 2 ^ e.toNat)) := by
  obtain ⟨A, c, rfl, _⟩ := hx.form
  have L0 := (Lq.mk0 w).z hx
  have HR := Lib.hid (fun v W h => drat_any z e v W h (by omega) (by omega))
  have hfd : ∀ (x : Bool) (E F : Option Addr) (n1 n2 n3 n4 : Nat) (W : World), (Instr.field 53 (.agg #[.bool x, .slice E n1 n2, .slice F n3 n4]) 0).run Tryz.prog W = .ok (.agg #[.bool x, .slice E n1 n2]) W := fun _ _ _ _ _ _ _ _ => by kernel_rfl
  generalize z * 2 ^ e.toNat = a at *
  generalize 2 ^ (-e).toNat = d at *
  clear hx lz he
  go_enter Tryz.func198, Tryz.ntmps198
  go_wp2_with fail
  have L := ((L0.varZ (w.heap.size) (by simp) (ng z) A (zl z) c).varZ (w.heap.size + 1) (by simp) false none 0 0)
  have c00 := L.b0.c20
  have f00 := L.b0.fr 0
  have c01 := L.b0.c21
  have f01 := L.b0.fr 1
  have c10 := L.tl.b0.c20
  have c11 := L.tl.b0.c21
  (try go_wp2_with fail)
  refine (HR.out _ _ (isD_z (L.getZ (v := .agg #[.bool (ng z), .slice A (zl z) c]) (by simp)))).mono ?_
  rintro e w1 ⟨vq, rfl, iq, be⟩
  clear c00 f00 c01 f01 c10 c11
  obtain ⟨A9, c9, B9, k9, rfl, iz9, _, _⟩ := iq.form
  replace L := (L.step be).z iz9
  clear be iq iz9
  have c00 := L.b0.c20
  have f00 := L.b0.fr 0
  have c01 := L.b0.c21
  have f01 := L.b0.fr 1
  have c10 := L.tl.b0.c20
  have c11 := L.tl.b0.c21
  (try go_wp2_with fail)
  have LP := L.putZ (by omega) (by first | (simp; done) | (simp; omega)) (ng a) A9 (zl a) c9
  have k0 := LP.b0.c20
  have k1 := LP.b0.c21
  unfold put2 at k0 k1
  exact bodyPost_ret (v := .agg #[.bool (ng a), .slice A9 (zl a) c9]) (by simp [results, Tryz.results198, go_sem, k0, k1]) rfl ⟨_, rfl, LP.getZ (by simp), LP.below⟩
set_option maxHeartbeats 4000000 in
theorem absign_any (m e n f n2 f2 : Int) (vx vy vz : Value) (w : World) (hx : IsD w vx m e) (hy : IsD w vy n f) (hz : IsD w vz n2 f2) (lm : zl m ≤ 1000) :
    Calls Tryz.prog 179 #[vx, vy, vz] w (RetD8 w (if m < 0 then n else n2) (if m < 0 then f else f2)) := by
  obtain ⟨A, c, rfl, _, hn1⟩ := hx.form
  obtain ⟨B, d, rfl, _, hn2⟩ := hy.form
  obtain ⟨C, h, rfl, _, hn3⟩ := hz.form
  have L0 := (((Lq.mk0 w).n hn3).n hn2).n hn1
  have hs := fun v W h => dsign_any m e v W h (by omega)
  have hc : cmpI m 0 < 0 ↔ m < 0 := by unfold cmpI; (repeat' split) <;> omega
  obtain ⟨x, hx9⟩ : ∃ x, cmpI m 0 = x := ⟨_, rfl⟩
  rw [hx9] at hs hc
  have HS := Lib.hid hs
  clear hs hx9 hx hy hz hn1 hn2 hn3 lm
  by_cases q : m < 0
  · rw [if_pos q, if_pos q]
    have b1 : decide (x < 0) = true := decide_eq_true (by omega)
    clear hc q
    go_enter Tryz.func179, Tryz.ntmps179
    go_wp2_with fail
    have L := ((((L0.varD (w.heap.size) (by simp) (ng m) A (zl m) c e).varD (w.heap.size + 1) (by simp) (ng n) B (zl n) d f).varD (w.heap.size + 2) (by simp) (ng n2) C (zl n2) h f2).varD (w.heap.size + 3) (by simp) false none 0 0 0)
    obtain ⟨gr, hgr⟩ : ∃ gr, w.heap.size + 1 + 1 + 1 = gr := ⟨_, rfl⟩
    have hgr2 : w.heap.size + 3 = gr := hgr
    obtain ⟨gz, hgz⟩ : ∃ gz, w.heap.size + 1 + 1 = gz := ⟨_, rfl⟩
    have hgz2 : w.heap.size + 2 = gz := hgz
    rw [hgr2, hgz2] at L
    rw [hgr, hgz]
    have hgr3 : w.heap.size + 2 < gr := by omega
    have hgz3 : w.heap.size + 1 < gz := by omega
    have hgr4 : gz < gr := by omega
    clear hgr hgr2 hgz hgz2
    have c00 := L.b0.c30
    have f00 := L.b0.fr 0
    have c01 := L.b0.c31
    have f01 := L.b0.fr 1
    have c02 := L.b0.c32
    have f02 := L.b0.fr 2
    have c10 := L.tl.b0.c30
    have c11 := L.tl.b0.c31
    have c12 := L.tl.b0.c32
    have c20 := L.tl.tl.b0.c30
    have c21 := L.tl.tl.b0.c31
    have c22 := L.tl.tl.b0.c32
    have c30 := L.tl.tl.tl.b0.c30
    have c31 := L.tl.tl.tl.b0.c31
    have c32 := L.tl.tl.tl.b0.c32
    (try go_wp2_with fail)
    refine (HS.out _ _ (isD_n (m := m) (e := e) (s := .slice A (zl m) c) (L.getN (by simp)))).mono ?_
    rintro e w1 ⟨rfl, be⟩
    clear c00 f00 c01 f01 c02 f02 c10 c11 c12 c20 c21 c22 c30 c31 c32
    replace L := L.step be
    clear be
    have c00 := L.b0.c30
    have f00 := L.b0.fr 0
    have c01 := L.b0.c31
    have f01 := L.b0.fr 1
    have c02 := L.b0.c32
    have f02 := L.b0.fr 2
    have c10 := L.tl.b0.c30
    have c11 := L.tl.b0.c31
    have c12 := L.tl.b0.c32
    have c20 := L.tl.tl.b0.c30
    have c21 := L.tl.tl.b0.c31
    have c22 := L.tl.tl.b0.c32
    have c30 := L.tl.tl.tl.b0.c30
    have c31 := L.tl.tl.tl.b0.c31
    have c32 := L.tl.tl.tl.b0.c32
    (try go_wp2_with fail)
    have LP := L.putD (by omega) (by first | (simp; done) | (simp; omega)) (ng n) B (zl n) d (f)
    have k0 := LP.b0.c30
    have k1 := LP.b0.c31
    have k2 := LP.b0.c32
    unfold put3 at k0 k1 k2
    exact bodyPost_ret (v := .agg #[.bool (ng n), .slice B (zl n) d, .int .i64 (f)]) (by simp [results, Tryz.results179, go_sem, k0, k1, k2]) rfl ⟨_, rfl, isD_n (LP.getN (by simp)), LP.below⟩
  · rw [if_neg q, if_neg q]
    have b1 : decide (x < 0) = false := decide_eq_false (by omega)
    clear hc q
    go_enter Tryz.func179, Tryz.ntmps179
    go_wp2_with fail
    have L := ((((L0.varD (w.heap.size) (by simp) (ng m) A (zl m) c e).varD (w.heap.size + 1) (by simp) (ng n) B (zl n) d f).varD (w.heap.size + 2) (by simp) (ng n2) C (zl n2) h f2).varD (w.heap.size + 3) (by simp) false none 0 0 0)
    obtain ⟨gr, hgr⟩ : ∃ gr, w.heap.size + 1 + 1 + 1 = gr := ⟨_, rfl⟩
    have hgr2 : w.heap.size + 3 = gr := hgr
    obtain ⟨gz, hgz⟩ : ∃ gz, w.heap.size + 1 + 1 = gz := ⟨_, rfl⟩
    have hgz2 : w.heap.size + 2 = gz := hgz
    rw [hgr2, hgz2] at L
    rw [hgr, hgz]
    have hgr3 : w.heap.size + 2 < gr := by omega
    have hgz3 : w.heap.size + 1 < gz := by omega
    have hgr4 : gz < gr := by omega
    clear hgr hgr2 hgz hgz2
    have c00 := L.b0.c30
    have f00 := L.b0.fr 0
    have c01 := L.b0.c31
    have f01 := L.b0.fr 1
    have c02 := L.b0.c32
    have f02 := L.b0.fr 2
    have c10 := L.tl.b0.c30
    have c11 := L.tl.b0.c31
    have c12 := L.tl.b0.c32
    have c20 := L.tl.tl.b0.c30
    have c21 := L.tl.tl.b0.c31
    have c22 := L.tl.tl.b0.c32
    have c30 := L.tl.tl.tl.b0.c30
    have c31 := L.tl.tl.tl.b0.c31
    have c32 := L.tl.tl.tl.b0.c32
    (try go_wp2_with fail)
    refine (HS.out _ _ (isD_n (m := m) (e := e) (s := .slice A (zl m) c) (L.getN (by simp)))).mono ?_
    rintro e w1 ⟨rfl, be⟩
    clear c00 f00 c01 f01 c02 f02 c10 c11 c12 c20 c21 c22 c30 c31 c32
    replace L := L.step be
    clear be
    have c00 := L.b0.c30
    have f00 := L.b0.fr 0
    have c01 := L.b0.c31
    have f01 := L.b0.fr 1
    have c02 := L.b0.c32
    have f02 := L.b0.fr 2
    have c10 := L.tl.b0.c30
    have c11 := L.tl.b0.c31
    have c12 := L.tl.b0.c32
    have c20 := L.tl.tl.b0.c30
    have c21 := L.tl.tl.b0.c31
    have c22 := L.tl.tl.b0.c32
    have c30 := L.tl.tl.tl.b0.c30
    have c31 := L.tl.tl.tl.b0.c31
    have c32 := L.tl.tl.tl.b0.c32
    (try go_wp2_with fail)
    have LP := L.putD (by omega) (by first | (simp; done) | (simp; omega)) (ng n2) C (zl n2) h (f2)
    have k0 := LP.b0.c30
    have k1 := LP.b0.c31
    have k2 := LP.b0.c32
    unfold put3 at k0 k1 k2
    exact bodyPost_ret (v := .agg #[.bool (ng n2), .slice C (zl n2) h, .int .i64 (f2)]) (by simp [results, Tryz.results179, go_sem, k0, k1, k2]) rfl ⟨_, rfl, isD_n (LP.getN (by simp)), LP.below⟩
set_option maxHeartbeats 8000000 in
theorem aquot_any (m e n f : Int) (vx vy : Value) (w : World) (hx : IsD w vx m e) (hy : IsD w vy n f) (lm : zl m ≤ 140) (ln : zl n ≤ 140) (he : -4500 ≤ e ∧ e ≤ 4500) (hf : -4500 ≤ f ∧ f ≤ 4500) (hn0 : n ≠ 0) :
    Calls Tryz.prog 178 #[vx, vy] w (RetP w (qtA m e n f) (qtD m e n f)) := by
  obtain ⟨A, c, rfl, hz1, hn1⟩ := hx.form
  obtain ⟨B, d, rfl, hz2, hn2⟩ := hy.form
  have L0 := ((((Lq.mk0 w).z hz2).z hz1).n hn2).n hn1
  have hs := fun v W h => dsign_any m e v W h (by omega)
  have hc : cmpI m 0 = 0 ↔ m = 0 := by unfold cmpI; (repeat' split) <;> omega
  obtain ⟨x, hx9⟩ : ∃ x, cmpI m 0 = x := ⟨_, rfl⟩
  rw [hx9] at hs hc
  have HS := Lib.hid hs
  clear hs hx9
  unfold qtA qtD
  by_cases q : m = 0
  · rw [if_pos q, if_pos q]
    have hx0 : x = 0 := hc.2 q
    have b1 : (x == 0) = true := by rw [hx0]; rfl
    have ho := fun W => pof_any 0 W (by omega) (by omega)
    have HO := Lib.hid (fun W => (show Calls Tryz.prog 194 #[.int .i64 0] W (RetP W 0 1) from ho W))
    clear ho hc q hx hy hz1 hz2 hn1 hn2 lm ln he hf hn0 hx0
    go_enter Tryz.func178, Tryz.ntmps178
    go_wp2_with fail
    have L := (((L0.varD (w.heap.size) (by simp) (ng m) A (zl m) c e).varD (w.heap.size + 1) (by simp) (ng n) B (zl n) d f).varQ (w.heap.size + 2) (by simp) false none none 0 0 0 0)
    obtain ⟨gr, hgr⟩ : ∃ gr, w.heap.size + 1 + 1 = gr := ⟨_, rfl⟩
    have hgr2 : w.heap.size + 2 = gr := hgr
    rw [hgr2] at L
    rw [hgr]
    have hgr3 : w.heap.size + 1 < gr := by omega
    clear hgr hgr2
    have c00 := L.b0.c30
    have f00 := L.b0.fr 0
    have c01 := L.b0.c31
    have f01 := L.b0.fr 1
    have c02 := L.b0.c32
    have f02 := L.b0.fr 2
    have c10 := L.tl.b0.c30
    have c11 := L.tl.b0.c31
    have c12 := L.tl.b0.c32
    have c20 := L.tl.tl.b0.c30
    have c21 := L.tl.tl.b0.c31
    have c22 := L.tl.tl.b0.c32
    (try go_wp2_with fail)
    refine (HS.out _ _ (isD_n (m := m) (e := e) (s := .slice A (zl m) c) (L.getN (by simp)))).mono ?_
    rintro e w1 ⟨rfl, be⟩
    clear c00 f00 c01 f01 c02 f02 c10 c11 c12 c20 c21 c22
    replace L := L.step be
    clear be
    have c00 := L.b0.c30
    have f00 := L.b0.fr 0
    have c01 := L.b0.c31
    have f01 := L.b0.fr 1
    have c02 := L.b0.c32
    have f02 := L.b0.fr 2
    have c10 := L.tl.b0.c30
    have c11 := L.tl.b0.c31
    have c12 := L.tl.b0.c32
    have c20 := L.tl.tl.b0.c30
    have c21 := L.tl.tl.b0.c31
    have c22 := L.tl.tl.b0.c32
    (try go_wp2_with fail)
    refine (HO.out _).mono ?_
    rintro e w2 ⟨vq, rfl, iq, be⟩
    clear c00 f00 c01 f01 c02 f02 c10 c11 c12 c20 c21 c22
    obtain ⟨A9, c9, B9, k9, rfl, _, _, _⟩ := iq.form
    replace L := (L.step be).q iq
    clear be iq
    have c00 := L.b0.c30
    have f00 := L.b0.fr 0
    have c01 := L.b0.c31
    have f01 := L.b0.fr 1
    have c02 := L.b0.c32
    have f02 := L.b0.fr 2
    have c10 := L.tl.b0.c30
    have c11 := L.tl.b0.c31
    have c12 := L.tl.b0.c32
    have c20 := L.tl.tl.b0.c30
    have c21 := L.tl.tl.b0.c31
    have c22 := L.tl.tl.b0.c32
    (try go_wp2_with fail)
    have LP := L.putQ (by omega) (by first | (simp; done) | (simp; omega)) (ng (0)) A9 B9 (zl (0)) c9 (len (1)) k9
    have k0 := LP.b0.c30
    have k1 := LP.b0.c31
    have k2 := LP.b0.c32
    unfold put3 at k0 k1 k2
    exact bodyPost_ret (v := .agg #[.bool (ng (0)), .slice A9 (zl (0)) c9, .slice B9 (len (1)) k9]) (by simp [results, Tryz.results178, go_sem, k0, k1, k2]) rfl ⟨_, rfl, LP.getQ (by simp), LP.below⟩
  · rw [if_neg q, if_neg q]
    have b1 : (x == 0) = false := by simpa using (fun h => q (hc.1 h))
    obtain ⟨z1, z2⟩ := qt_low (m := m) hn0
    have hm := fun v u W h1 h2 => pmake_any m n v u W h1 h2 (by omega) (by omega) hn0
    obtain ⟨p, hp⟩ : ∃ p, (Rat.divInt m n).num = p := ⟨_, rfl⟩
    obtain ⟨r, hr⟩ : ∃ r, (Rat.divInt m n).den = r := ⟨_, rfl⟩
    rw [hp] at hm z1 ⊢
    rw [hr] at hm z2 ⊢
    obtain ⟨s, hs⟩ : ∃ s, e - f = s := ⟨_, rfl⟩
    have hs2 : f - e = -s := by omega
    rw [hs, hs2]
    have w1 : IntKind.i64.wrap (e - f) = s := by rw [hs, IntKind.wrap_i64]; omega
    have w2 : IntKind.i64.wrap (-s) = -s := by rw [IntKind.wrap_i64]; omega
    have zr : zl ((r : Nat) : Int) ≤ 140 := by show len r ≤ 140; omega
    have n1 := fun v W h => anum_any p s v W h (by omega) (by omega)
    have n2 := fun v W h => anum_any ((r : Nat) : Int) (-s) v W h (by omega) (by omega)
    have hc2 : ((r : Nat) : Int) * 2 ^ (-s).toNat = ((r * 2 ^ (-s).toNat : Nat) : Int) := by rw [Int.natCast_mul, cast2]
    rw [hc2] at n2
    obtain ⟨a9, ha9⟩ : ∃ a9, p * 2 ^ s.toNat = a9 := ⟨_, rfl⟩
    obtain ⟨d9, hd9⟩ : ∃ d9, r * 2 ^ (-s).toNat = d9 := ⟨_, rfl⟩
    rw [ha9] at n1 ⊢
    rw [hd9] at n2 ⊢
    have HM := Lib.hid hm
    have N1 := Lib.hid n1
    have N2 := Lib.hid n2
    have hfd : ∀ (x : Bool) (E : Option Addr) (n1 n2 : Nat) (W : World), (Instr.field 24 (.agg #[.bool x, .slice E n1 n2]) 1).run Tryz.prog W = .ok (.slice E n1 n2) W := fun _ _ _ _ _ => by kernel_rfl
    clear hm n1 n2 hp hr hs hs2 z1 z2 zr hc2 ha9 hd9 hc q hx hy hz1 hz2 hn1 hn2 lm ln he hf hn0
    go_enter Tryz.func178, Tryz.ntmps178
    go_wp2_with fail
    have L := (((L0.varD (w.heap.size) (by simp) (ng m) A (zl m) c e).varD (w.heap.size + 1) (by simp) (ng n) B (zl n) d f).varQ (w.heap.size + 2) (by simp) false none none 0 0 0 0)
    obtain ⟨gr, hgr⟩ : ∃ gr, w.heap.size + 1 + 1 = gr := ⟨_, rfl⟩
    have hgr2 : w.heap.size + 2 = gr := hgr
    rw [hgr2] at L
    rw [hgr]
    have hgr3 : w.heap.size + 1 < gr := by omega
    clear hgr hgr2
    have c00 := L.b0.c30
    have f00 := L.b0.fr 0
    have c01 := L.b0.c31
    have f01 := L.b0.fr 1
    have c02 := L.b0.c32
    have f02 := L.b0.fr 2
    have c10 := L.tl.b0.c30
    have c11 := L.tl.b0.c31
    have c12 := L.tl.b0.c32
    have c20 := L.tl.tl.b0.c30
    have c21 := L.tl.tl.b0.c31
    have c22 := L.tl.tl.b0.c32
    (try go_wp2_with fail)
    refine (HS.out _ _ (isD_n (m := m) (e := e) (s := .slice A (zl m) c) (L.getN (by simp)))).mono ?_
    rintro e w1 ⟨rfl, be⟩
    clear c00 f00 c01 f01 c02 f02 c10 c11 c12 c20 c21 c22
    replace L := L.step be
    clear be
    have c00 := L.b0.c30
    have f00 := L.b0.fr 0
    have c01 := L.b0.c31
    have f01 := L.b0.fr 1
    have c02 := L.b0.c32
    have f02 := L.b0.fr 2
    have c10 := L.tl.b0.c30
    have c11 := L.tl.b0.c31
    have c12 := L.tl.b0.c32
    have c20 := L.tl.tl.b0.c30
    have c21 := L.tl.tl.b0.c31
    have c22 := L.tl.tl.b0.c32
    (try go_wp2_with fail)
    refine (HM.out _ _ _ (L.getZ (v := .agg #[.bool (ng m), .slice A (zl m) c]) (by simp)) (L.getZ (v := .agg #[.bool (ng n), .slice B (zl n) d]) (by simp))).mono ?_
    rintro e w2 ⟨vq, rfl, iq, be⟩
    clear c00 f00 c01 f01 c02 f02 c10 c11 c12 c20 c21 c22
    obtain ⟨A8, c8, B8, k8, rfl, iz8, _, in8⟩ := iq.form
    replace L := ((L.step be).z (isZ_nat in8)).z iz8
    clear be iq iz8 in8
    have hl8 := L.b0.lt
    have g8n : gr ≠ w2.heap.size := by omega
    replace L := L.varQ w2.heap.size rfl (ng p) A8 B8 (zl p) c8 (len r) k8
    have c00 := L.b0.c30
    have c01 := L.b0.c31
    have c02 := L.b0.c32
    have c20 := L.tl.tl.b0.c30
    have c21 := L.tl.tl.b0.c31
    have c22 := L.tl.tl.b0.c32
    have c30 := L.tl.tl.tl.b0.c30
    have c31 := L.tl.tl.tl.b0.c31
    have c32 := L.tl.tl.tl.b0.c32
    go_wp2_with fail
    replace L := L.swap.drew
    clear c00 c01 c02 c20 c21 c22 c30 c31 c32
    have c00 := L.b0.c30
    have f00 := L.b0.fr 0
    have c01 := L.b0.c31
    have f01 := L.b0.fr 1
    have c02 := L.b0.c32
    have f02 := L.b0.fr 2
    have c10 := L.tl.b0.c30
    have c11 := L.tl.b0.c31
    have c12 := L.tl.b0.c32
    go_region_held3 (fun w' => w'.cell? ⟨w2.heap.size, 0, none⟩ = some (.bool (ng p)) ∧ w'.cell? ⟨w2.heap.size, 1, none⟩ = some (.slice A8 (zl p) c8) ∧ w'.cell? ⟨w2.heap.size, 2, none⟩ = some (.slice B8 (len r) k8)) (first | (with_reducible exact ⟨L.tl.b0.c30, L.tl.b0.c31, L.tl.b0.c32⟩) | exact ⟨L.tl.b0.c30, L.tl.b0.c31, L.tl.b0.c32⟩ | (have LP := L.putQ (by omega) (by first | (simp; done) | (simp; omega)) (ng a9) A9 B9 (zl a9) c9 (zl (d9 : Int)) k9; exact ⟨LP.tl.b0.c30, LP.tl.b0.c31, LP.tl.b0.c32⟩)) (first | (go_at_call 198; (with_reducible refine (N1.out _ _ ?_ ).mono ?_); (· (refine L.getZ ?_; (repeat (first | (with_reducible exact List.mem_cons_self) | apply List.mem_cons_of_mem)))); rintro e wh ⟨vh, rfl, iz, be⟩; obtain ⟨A9, c9, rfl, in9⟩ := iz.form; replace L := (L.step be).n in9; clear be iz in9; (try (have x00 := L.b0.c30; have x01 := L.b0.c31; have x02 := L.b0.c32; have y00 := L.b0.fr 0; have y01 := L.b0.fr 1; have y02 := L.b0.fr 2))) | (go_at_call 198; (with_reducible refine (N2.out _ _ ?_ ).mono ?_); (· (refine L.getZ ?_; (repeat (first | (with_reducible exact List.mem_cons_self) | apply List.mem_cons_of_mem)))); rintro e wh ⟨vh, rfl, iz, be⟩; obtain ⟨B9, k9, rfl, in9⟩ := iz.form; replace L := (L.step be).n in9; clear be iz in9; (try (have x00 := L.b0.c30; have x01 := L.b0.c31; have x02 := L.b0.c32; have y00 := L.b0.fr 0; have y01 := L.b0.fr 1; have y02 := L.b0.fr 2))))
    clear c00 f00 c01 f01 c02 f02 c10 c11 c12
    go_wp2_with fail
    have LP := L.putQ (by omega) (by first | (simp; done) | (simp; omega)) (ng a9) A9 B9 (zl a9) c9 (zl (d9 : Int)) k9
    have k0 := LP.b0.c30
    have k1 := LP.b0.c31
    have k2 := LP.b0.c32
    unfold put3 at k0 k1 k2
    exact bodyPost_ret (v := .agg #[.bool (ng a9), .slice A9 (zl a9) c9, .slice B9 (zl (d9 : Int)) k9]) (by simp [results, Tryz.results178, go_sem, k0, k1, k2]) rfl ⟨_, rfl, ⟨_, _, rfl, LP.getN (by simp), (show IsN _ _ (d9 : Int).natAbs from LP.getN (by simp))⟩, LP.below⟩
theorem div_ends {a b c d : Rat} (hab : a ≤ b) (hc : 0 < c) (hcd : c ≤ d) : (if a < 0 then a / c else a / d) = min4 (a / c) (a / d) (b / c) (b / d) ∧ (if b < 0 then b / d else b / c) = max4 (a / c) (a / d) (b / c) (b / d) := by
  have hd : 0 < d := rle_lt hc hcd
  have i1 := inv_anti hc hcd
  have i2 := Rat.le_of_lt (inv_pos hc)
  have i3 := Rat.le_of_lt (inv_pos hd)
  simp only [Rat.div_def]
  have b1 := mul_nn hab i2
  have b2 := mul_nn hab i3
  have m4 := min4_le (a * c⁻¹) (a * d⁻¹) (b * c⁻¹) (b * d⁻¹)
  have M4 := le_max4 (a * c⁻¹) (a * d⁻¹) (b * c⁻¹) (b * d⁻¹)
  constructor
  · by_cases h : a < 0
    · rw [if_pos h]
      have a1 := mul_np i1 (Rat.le_of_lt h)
      rw [Rat.mul_comm, Rat.mul_comm d⁻¹] at a1
      exact Rat.le_antisymm (le_min4 Rat.le_refl a1 b1 (Rat.le_trans a1 b2)) m4.1
    · rw [if_neg h]
      have a1 := mul_nn i1 (Rat.not_lt.1 h)
      rw [Rat.mul_comm, Rat.mul_comm c⁻¹] at a1
      exact Rat.le_antisymm (le_min4 a1 Rat.le_refl (Rat.le_trans a1 b1) b2) m4.2.1
  · by_cases h : b < 0
    · rw [if_pos h]
      have a1 := mul_np i1 (Rat.le_of_lt h)
      rw [Rat.mul_comm, Rat.mul_comm d⁻¹] at a1
      exact Rat.le_antisymm M4.2.2.2 (max4_le (Rat.le_trans b1 a1) b2 a1 Rat.le_refl)
    · rw [if_neg h]
      have a1 := mul_nn i1 (Rat.not_lt.1 h)
      rw [Rat.mul_comm, Rat.mul_comm c⁻¹] at a1
      exact Rat.le_antisymm M4.2.2.1 (max4_le b1 (Rat.le_trans b2 a1) Rat.le_refl a1)
theorem dq_lt0 (m e : Int) : dq m e < 0 ↔ m < 0 := by
  have h := dcm_lt m e 0 0
  rw [dcm_zero, show dq 0 0 = 0 from rfl] at h
  rw [← h]
  unfold cmpI
  (repeat' split) <;> omega
theorem dq_gt0 (m e : Int) : 0 < dq m e ↔ 0 < m := by
  have h := dcm_lt 0 0 m e
  rw [dcm_swap m e 0 0, dcm_zero, show dq 0 0 = 0 from rfl] at h
  rw [← h]
  unfold cmpI
  (repeat' split) <;> omega
theorem quo_lo {m e n f m2 e2 n2 f2 : Int} (h1 : dcm m e n f ≤ 0) (h2 : dcm m2 e2 n2 f2 ≤ 0) (hp : 0 < m2) (hp2 : 0 < n2) : Rat.divInt (qtA m e (if m < 0 then m2 else n2) (if m < 0 then e2 else f2)) (qtD m e (if m < 0 then m2 else n2) (if m < 0 then e2 else f2) : Int) = min4 (dq m e / dq m2 e2) (dq m e / dq n2 f2) (dq n f / dq m2 e2) (dq n f / dq n2 f2) := by
  rw [← (div_ends ((dcm_le _ _ _ _).1 h1) ((dq_gt0 m2 e2).2 hp) ((dcm_le _ _ _ _).1 h2)).1]
  have hs := dq_lt0 m e
  by_cases h : m < 0
  · rw [if_pos h, if_pos h, if_pos (hs.2 h)]
    exact qt_val (by omega)
  · rw [if_neg h, if_neg h, if_neg (fun h9 => h (hs.1 h9))]
    exact qt_val (by omega)
theorem quo_hi {m e n f m2 e2 n2 f2 : Int} (h1 : dcm m e n f ≤ 0) (h2 : dcm m2 e2 n2 f2 ≤ 0) (hp : 0 < m2) (hp2 : 0 < n2) : Rat.divInt (qtA n f (if n < 0 then n2 else m2) (if n < 0 then f2 else e2)) (qtD n f (if n < 0 then n2 else m2) (if n < 0 then f2 else e2) : Int) = max4 (dq m e / dq m2 e2) (dq m e / dq n2 f2) (dq n f / dq m2 e2) (dq n f / dq n2 f2) := by
  rw [← (div_ends ((dcm_le _ _ _ _).1 h1) ((dq_gt0 m2 e2).2 hp) ((dcm_le _ _ _ _).1 h2)).2]
  have hs := dq_lt0 n f
  by_cases h : n < 0
  · rw [if_pos h, if_pos h, if_pos (hs.2 h)]
    exact qt_val (by omega)
  · rw [if_neg h, if_neg h, if_neg (fun h9 => h (hs.1 h9))]
    exact qt_val (by omega)
theorem cmp_signs {m n : Int} (h : cmpI m 0 = cmpI n 0) : (cmpI m 0 < 0 → m < 0 ∧ n < 0) ∧ (¬ cmpI m 0 < 0 → cmpI m 0 ≠ 0 → 0 < m ∧ 0 < n) := by
  unfold cmpI at *
  (repeat' split at *) <;> omega
theorem Lq.name {w0 w : World} {ns : List (Value × Nat)} {zs : List (Value × Int)} {qs : List (Value × Int × Nat)} {bs : List (Nat × TypeId × Array Value)} (h : Lq w0 w ns zs qs bs) : ∃ x, w = x ∧ Lq w0 x ns zs qs bs := ⟨w, rfl, h⟩


set_option maxHeartbeats 4000000 in
theorem of15_any (a b : Int) (w : World) (h1 : -4000 ≤ a ∧ a ≤ 4000) (h2 : -4000 ≤ b ∧ b ≤ 4000) :
    Calls Tryz.prog 23 #[.int .i64 a, .int .i64 b] w (RetI6 w (mkM a 0) (mkE a 0) (mkM b 0) (mkE b 0)) := by
  have HA := Lib.hid (fun W => rof8_any a W (by omega) (by omega))
  have HB := Lib.hid (fun W => rof8_any b W (by omega) (by omega))
  generalize mkM a 0 = m at *
  generalize mkE a 0 = e at *
  generalize mkM b 0 = n at *
  generalize mkE b 0 = f at *
  clear h1 h2
  go_enter Tryz.func23, Tryz.ntmps23
  go_wp2_with fail
  have L := ((Lq.mk0 w).varI (w.heap.size) (by simp) false none 0 0 0 false none 0 0 0)
  have c00 := L.b0.c60
  have f00 := L.b0.fr 0
  have c01 := L.b0.c61
  have f01 := L.b0.fr 1
  have c02 := L.b0.c62
  have f02 := L.b0.fr 2
  have c03 := L.b0.c63
  have f03 := L.b0.fr 3
  have c04 := L.b0.c64
  have f04 := L.b0.fr 4
  have c05 := L.b0.c65
  have f05 := L.b0.fr 5
  (try go_wp2_with fail)
  refine (HA.out _).mono ?_
  rintro e w1 ⟨v1, rfl, id, be⟩
  clear c00 f00 c01 f01 c02 f02 c03 f03 c04 f04 c05 f05
  obtain ⟨A, c, rfl, _, in9⟩ := id.form
  replace L := (L.step be).n in9
  clear be id in9
  have c00 := L.b0.c60
  have f00 := L.b0.fr 0
  have c01 := L.b0.c61
  have f01 := L.b0.fr 1
  have c02 := L.b0.c62
  have f02 := L.b0.fr 2
  have c03 := L.b0.c63
  have f03 := L.b0.fr 3
  have c04 := L.b0.c64
  have f04 := L.b0.fr 4
  have c05 := L.b0.c65
  have f05 := L.b0.fr 5
  (try go_wp2_with fail)
  refine (HB.out _).mono ?_
  rintro e w2 ⟨v2, rfl, id, be⟩
  clear c00 f00 c01 f01 c02 f02 c03 f03 c04 f04 c05 f05
  obtain ⟨B, d, rfl, _, in9⟩ := id.form
  replace L := (L.step be).n in9
  clear be id in9
  have c00 := L.b0.c60
  have f00 := L.b0.fr 0
  have c01 := L.b0.c61
  have f01 := L.b0.fr 1
  have c02 := L.b0.c62
  have f02 := L.b0.fr 2
  have c03 := L.b0.c63
  have f03 := L.b0.fr 3
  have c04 := L.b0.c64
  have f04 := L.b0.fr 4
  have c05 := L.b0.c65
  have f05 := L.b0.fr 5
  (try go_wp2_with fail)
  have LP := L.putI (by omega) (by first | (simp; done) | (simp; omega)) (ng m) A (zl m) c e (ng n) B (zl n) d f
  have k0 := LP.b0.c60
  have k1 := LP.b0.c61
  have k2 := LP.b0.c62
  have k3 := LP.b0.c63
  have k4 := LP.b0.c64
  have k5 := LP.b0.c65
  unfold put6 at k0 k1 k2 k3 k4 k5
  exact bodyPost_ret (v := .agg #[.bool (ng m), .slice A (zl m) c, .int .i64 e, .bool (ng n), .slice B (zl n) d, .int .i64 f]) (by simp [results, Tryz.results23, go_sem, k0, k1, k2, k3, k4, k5]) rfl ⟨_, rfl, isI_n (LP.getN (by simp)) (LP.getN (by simp)), LP.below⟩
theorem Lq.sub1 {w0 w : World} {ns : List (Value × Nat)} {zs : List (Value × Int)} {qs : List (Value × Int × Nat)} {bs : List (Nat × TypeId × Array Value)} (h : Lq w0 w ns zs qs bs) {ns' : List (Value × Nat)} {bs' : List (Nat × TypeId × Array Value)} (h1 : ∀ p ∈ ns', p ∈ ns) (h2 : ∀ b ∈ bs', b ∈ bs) : Lq w0 w ns' [] [] bs' := h.subx h1 h2
theorem dv_opp {m e : Int} (h : Dv m e) : Dv (-m) e := by
  rcases h with ⟨h1, h2⟩ | ⟨h1, h2⟩
  · exact Or.inl ⟨by omega, h2⟩
  · refine Or.inr ⟨by omega, ?_⟩
    unfold fits8 at *
    rwa [Int.natAbs_neg]
/-- An end of an argument. -/
structure EndL (m e : Int) : Prop where
  v : Dv m e
  nn : ng m = false
  z : zl m ≤ 3
  e1 : -60 ≤ e
  e2 : e ≤ 156
theorem EndL.ge {m e : Int} (h : EndL m e) : 0 ≤ m := by
  have := h.nn
  unfold ng at this
  have := of_decide_eq_false this
  omega
/-- An argument of a law, before its sign is looked at. -/
structure ArgP (m e n f : Int) : Prop where
  lo : EndL m e
  hi : EndL n f
  le : dq m e ≤ dq n f
/-- A positive argument. -/
structure ArgL (m e n f : Int) : Prop where
  vm : Dv m e
  vn : Dv n f
  pm : 0 < m
  le : dq m e ≤ dq n f
  zm : zl m ≤ 3
  zn : zl n ≤ 3
  em : -60 ≤ e ∧ e ≤ 156
  en : -60 ≤ f ∧ f ≤ 156
theorem ArgP.pos {m e n f : Int} (h : ArgP m e n f) (hm : 0 < m) : ArgL m e n f := ⟨h.lo.v, h.hi.v, hm, h.le, h.lo.z, h.hi.z, ⟨h.lo.e1, h.lo.e2⟩, ⟨h.hi.e1, h.hi.e2⟩⟩
/-- What arg returns. -/
def RetArgL (w : World) (en : Ending) (w' : World) : Prop := ∃ v ok m e n f, en = .returned (.tuple #[v, .bool ok]) ∧ IsI w' v m e n f ∧ Below w.heap.size w w' ∧ (ok = true → ArgL m e n f)

set_option maxHeartbeats 16000000 in
theorem s15arg_any (b b' : Bool) (l l' : List Nat) (A A' : Option Addr) (p c p' c' : Nat) (e0 e1 : Int) (w : World) (h : Sl w A p c l) (h' : Sl w A' p' c' l') (h1 : -9223372036854775808 ≤ e0) (h2 : e0 ≤ 9223372036854775807) (h3 : -9223372036854775808 ≤ e1) (h4 : e1 ≤ 9223372036854775807) :
    Calls Tryz.prog 10 #[.agg #[.bool b, .slice A p c, .int .i64 e0, .bool b', .slice A' p' c', .int .i64 e1]] w (RetArgL w) := by
  have H0 := Lib.hid (fun W (hW : Below w.heap.size w W) => millI_any b b' l l' 2 60 A A' p c p' c' e0 e1 W (h.mono hW) (h'.mono hW) (by omega) (by omega) h1 h2 h3 h4)
  clear h h' h1 h2 h3 h4
  go_enter Tryz.func10, Tryz.ntmps10
  go_wp2_with fail
  have L := (((Lq.mk0 w).varI (w.heap.size) (by simp) b A p c e0 b' A' p' c' e1).varI (w.heap.size + 1) (by simp) false none 0 0 0 false none 0 0 0)
  have c10 := L.tl.b0.c60
  have c11 := L.tl.b0.c61
  have c12 := L.tl.b0.c62
  have c13 := L.tl.b0.c63
  have c14 := L.tl.b0.c64
  have c15 := L.tl.b0.c65
  (try go_wp2_with fail)
  refine (H0.out _ L.below).mono ?_
  rintro e w1 ⟨vv, ok, m, e, n, f, rfl, ii, zz, be1, bf1, hdv, hcm, be⟩
  clear c10 c11 c12 c13 c14 c15
  obtain ⟨A6, c6, B6, d6, rfl, ia, ib⟩ := ii.form
  replace L := ((L.step be).n ib).n ia
  clear be ii ia ib H0
  have hl0 := L.b0.lt
  have hl1 := L.tl.b0.lt
  replace L := L.varI w1.heap.size rfl (ng m) A6 (zl m) c6 e (ng n) B6 (zl n) d6 f
  have HA := Lib.hid (fun h : ok = true => And.intro (hdv h) (And.intro zz (And.intro be1 bf1)))
  clear hdv hcm zz be1 bf1
  cases ok
  · clear hl0 hl1
    have c00 := L.b0.c60
    have c01 := L.b0.c61
    have c02 := L.b0.c62
    have c03 := L.b0.c63
    have c04 := L.b0.c64
    have c05 := L.b0.c65
    have LS := L.subx (ns' := [(.slice A6 (zl m) c6, m.natAbs), (.slice B6 (zl n) d6, n.natAbs)]) (bs' := [(w.heap.size + 1, 28, #[.bool false, .slice none 0 0, .int .i64 0, .bool false, .slice none 0 0, .int .i64 0])]) (by simp) (by simp)
    have s0 := LS.b0.c60
    have r0 := LS.b0.fr 0
    have s1 := LS.b0.c61
    have r1 := LS.b0.fr 1
    have s2 := LS.b0.c62
    have r2 := LS.b0.fr 2
    have s3 := LS.b0.c63
    have r3 := LS.b0.fr 3
    have s4 := LS.b0.c64
    have r4 := LS.b0.fr 4
    have s5 := LS.b0.c65
    have r5 := LS.b0.fr 5
    go_wp2_with fail
    clear L
    have L := LS
    have LP := L.putI (by omega) (by simp) (ng m) A6 (zl m) c6 e (ng n) B6 (zl n) d6 f
    have k0 := LP.b0.c60
    have k1 := LP.b0.c61
    have k2 := LP.b0.c62
    have k3 := LP.b0.c63
    have k4 := LP.b0.c64
    have k5 := LP.b0.c65
    unfold put6 at k0 k1 k2 k3 k4 k5
    exact bodyPost_ret (v := .tuple #[.agg #[.bool (ng m), .slice A6 (zl m) c6, .int .i64 e, .bool (ng n), .slice B6 (zl n) d6, .int .i64 f], .bool false]) (by simp [results, Tryz.results10, go_sem, k0, k1, k2, k3, k4, k5]) rfl ⟨_, _, _, _, _, _, rfl, isI_n (LP.getN (by simp)) (LP.getN (by simp)), LP.below, fun h => by cases h⟩
  · obtain ⟨⟨dv1, dv2⟩, ⟨z1, z2⟩, be1, bf1⟩ := HA.out rfl
    clear HA
    have c00 := L.b0.c60
    have c01 := L.b0.c61
    have c02 := L.b0.c62
    have c03 := L.b0.c63
    have c04 := L.b0.c64
    have c05 := L.b0.c65
    go_upto_region 4 with fail
    clear c00 c01 c02 c03 c04 c05
    obtain ⟨g6, hg6⟩ : ∃ g9, w1.heap.size = g9 := ⟨_, rfl⟩
    rw [hg6] at L hl0 hl1 ⊢
    clear hg6
    have L8 := L.subx (ns' := [(.slice A6 (zl m) c6, m.natAbs), (.slice B6 (zl n) d6, n.natAbs)]) (bs' := [(g6, 28, #[.bool (ng m), .slice A6 (zl m) c6, .int .i64 e, .bool (ng n), .slice B6 (zl n) d6, .int .i64 f]), (w.heap.size + 1, 28, #[.bool false, .slice none 0 0, .int .i64 0, .bool false, .slice none 0 0, .int .i64 0])]) (by simp) (by simp)
    clear L
    have L := L8
    clear L8
    have hgr : w.heap.size + 1 < g6 := by omega
    have hmn : ∀ (x y : Int), Dv x y → ng x = true → zl x ≤ 3 → -60 ≤ y → y ≤ 156 → EndL (-x) y := fun x y q1 q2 q3 q4 q5 => ⟨dv_opp q1, by
      unfold ng at *
      have := of_decide_eq_true q2
      exact decide_eq_false (by omega), by rw [zl_neg]; exact q3, q4, q5⟩
    have HM := Lib.hid hmn
    clear hmn
    obtain ⟨V0, hV0, L9⟩ := L.name
    rw [hV0]
    clear hV0 L
    have L := L9
    clear L9
    obtain ⟨a0, ha0⟩ : ∃ a, ng m = a := ⟨_, rfl⟩
    have HN := Lib.hid ha0
    clear ha0
    have c00 := L.b0.c60
    have c01 := L.b0.c61
    have c02 := L.b0.c62
    have c03 := L.b0.c63
    have c04 := L.b0.c64
    have c05 := L.b0.c65
    have hnx := HN.out
    rw [hnx] at c00
    clear hnx
    go_upto_if 17 with fail
    clear c00 c01 c02 c03 c04 c05
    go_cut [] from 18 to 22 (fun wx => ∃ (x9 : Int) (A9 : Option Addr) (c9 : Nat), Lq w wx [(.slice A9 (zl x9) c9, x9.natAbs), (.slice B6 (zl n) d6, n.natAbs)] [] [] [(g6, 28, #[.bool (ng x9), .slice A9 (zl x9) c9, .int .i64 e, .bool (ng n), .slice B6 (zl n) d6, .int .i64 f]), (w.heap.size + 1, 28, #[.bool false, .slice none 0 0, .int .i64 0, .bool false, .slice none 0 0, .int .i64 0])] ∧ Hid (EndL x9 e))
    case first =>
      cases a0
      · have HE := Lib.hid (EndL.mk dv1 HN.out z1 (by omega) (by omega))
        go_wp2_with fail
        go_meet
        exact ⟨m, A6, c6, L, HE⟩
      · have HE := Lib.hid (HM.out _ _ dv1 HN.out z1 (by omega) (by omega))
        have G1 := Lib.hid (fun x W h => rneg8_any m e x W h (by omega))
        have c00 := L.b0.c60
        have f00 := L.b0.fr 0
        have c01 := L.b0.c61
        have f01 := L.b0.fr 1
        have c02 := L.b0.c62
        have f02 := L.b0.fr 2
        have c03 := L.b0.c63
        have f03 := L.b0.fr 3
        have c04 := L.b0.c64
        have f04 := L.b0.fr 4
        have c05 := L.b0.c65
        have f05 := L.b0.fr 5
        go_wp2_with fail
        refine (G1.out _ _ (isD_n (m := m) (e := e) (s := .slice A6 (zl m) c6) (L.getN (by simp)))).mono ?_
        rintro e9 w2 ⟨vv, rfl, id, be⟩
        clear c00 f00 c01 f01 c02 f02 c03 f03 c04 f04 c05 f05
        obtain ⟨A9, c9, rfl, _, in9⟩ := id.form
        replace L := (L.step be).n in9
        clear be id in9
        obtain ⟨x9, hx9⟩ : ∃ z, -m = z := ⟨_, rfl⟩
        rw [hx9] at L HE ⊢
        clear hx9
        have c00 := L.b0.c60
        have f00 := L.b0.fr 0
        have c01 := L.b0.c61
        have f01 := L.b0.fr 1
        have c02 := L.b0.c62
        have f02 := L.b0.fr 2
        have c03 := L.b0.c63
        have f03 := L.b0.fr 3
        have c04 := L.b0.c64
        have f04 := L.b0.fr 4
        have c05 := L.b0.c65
        have f05 := L.b0.fr 5
        have P := L.putLo (by omega) (by simp; omega) (ng x9) A9 (zl x9) c9 e
        go_wp2_with fail
        go_meet
        exact ⟨x9, A9, c9, P.subx (by simp) (by simp), HE⟩
    case rest =>
      clear L HN
      obtain ⟨m, A6, c6, L, HE0⟩ := hcut
      generalize wc = wd0 at *
      obtain ⟨a1, ha1⟩ : ∃ a, ng n = a := ⟨_, rfl⟩
      have HN := Lib.hid ha1
      clear ha1
      have c00 := L.b0.c60
      have c01 := L.b0.c61
      have c02 := L.b0.c62
      have c03 := L.b0.c63
      have c04 := L.b0.c64
      have c05 := L.b0.c65
      have hnx := HN.out
      rw [hnx] at c03
      clear hnx
      go_upto_if 25 with fail
      clear c00 c01 c02 c03 c04 c05
      go_cut [] from 26 to 30 (fun wx => ∃ (x9 : Int) (A9 : Option Addr) (c9 : Nat), Lq w wx [(.slice A6 (zl m) c6, m.natAbs), (.slice A9 (zl x9) c9, x9.natAbs)] [] [] [(g6, 28, #[.bool (ng m), .slice A6 (zl m) c6, .int .i64 e, .bool (ng x9), .slice A9 (zl x9) c9, .int .i64 f]), (w.heap.size + 1, 28, #[.bool false, .slice none 0 0, .int .i64 0, .bool false, .slice none 0 0, .int .i64 0])] ∧ Hid (EndL x9 f))
      case first =>
        cases a1
        · have HE := Lib.hid (EndL.mk dv2 HN.out z2 (by omega) (by omega))
          go_wp2_with fail
          go_meet
          exact ⟨n, B6, d6, L, HE⟩
        · have HE := Lib.hid (HM.out _ _ dv2 HN.out z2 (by omega) (by omega))
          have G1 := Lib.hid (fun x W h => rneg8_any n f x W h (by omega))
          have c00 := L.b0.c60
          have f00 := L.b0.fr 0
          have c01 := L.b0.c61
          have f01 := L.b0.fr 1
          have c02 := L.b0.c62
          have f02 := L.b0.fr 2
          have c03 := L.b0.c63
          have f03 := L.b0.fr 3
          have c04 := L.b0.c64
          have f04 := L.b0.fr 4
          have c05 := L.b0.c65
          have f05 := L.b0.fr 5
          go_wp2_with fail
          refine (G1.out _ _ (isD_n (m := n) (e := f) (s := .slice B6 (zl n) d6) (L.getN (by simp)))).mono ?_
          rintro e9 w7 ⟨vv, rfl, id, be⟩
          clear c00 f00 c01 f01 c02 f02 c03 f03 c04 f04 c05 f05
          obtain ⟨A9, c9, rfl, _, in9⟩ := id.form
          replace L := (L.step be).n in9
          clear be id in9
          obtain ⟨x9, hx9⟩ : ∃ z, -n = z := ⟨_, rfl⟩
          rw [hx9] at L HE ⊢
          clear hx9
          have c00 := L.b0.c60
          have f00 := L.b0.fr 0
          have c01 := L.b0.c61
          have f01 := L.b0.fr 1
          have c02 := L.b0.c62
          have f02 := L.b0.fr 2
          have c03 := L.b0.c63
          have f03 := L.b0.fr 3
          have c04 := L.b0.c64
          have f04 := L.b0.fr 4
          have c05 := L.b0.c65
          have f05 := L.b0.fr 5
          have P := L.putHi (by omega) (by simp; omega) (ng x9) A9 (zl x9) c9 f
          go_wp2_with fail
          go_meet
          exact ⟨x9, A9, c9, P.subx (by simp) (by simp), HE⟩
      case rest =>
        clear L HN
        obtain ⟨n, B6, d6, L, HE1⟩ := hcut
        generalize wc = wd1 at *
        have hE0 := HE0.out
        have hE1 := HE1.out
        have z1 := hE0.z
        have z2 := hE1.z
        have a1 := hE0.e1
        have a2 := hE0.e2
        have a3 := hE1.e1
        have a4 := hE1.e2
        have g1 := fun x y W h j => rcmp8_any m e n f x y W h j (by omega) (by omega) (by omega) (by omega)
        rw [show cmpI (m * 2 ^ (e - min e f).toNat) (n * 2 ^ (f - min e f).toNat) = dcm m e n f from rfl] at g1
        have hle := dcm_le m e n f
        obtain ⟨cm, hcm⟩ : ∃ z, dcm m e n f = z := ⟨_, rfl⟩
        rw [hcm] at g1 hle
        have G1 := Lib.hid g1
        have hP1 : cm ≤ 0 → ArgP m e n f := fun h => ⟨hE0, hE1, hle.1 h⟩
        have hP2 : 0 < cm → ArgP n f m e := fun h => ⟨hE1, hE0, Rat.le_of_lt (Rat.not_le.1 fun h9 => by have := hle.2 h9; omega)⟩
        have HP1 := Lib.hid hP1
        have HP2 := Lib.hid hP2
        clear g1 hle hcm hP1 hP2 hE0 hE1 z1 z2 a1 a2 a3 a4 HE0 HE1 dv1 dv2 be1 bf1
        have c00 := L.b0.c60
        have c01 := L.b0.c61
        have c02 := L.b0.c62
        have c03 := L.b0.c63
        have c04 := L.b0.c64
        have c05 := L.b0.c65
        (try go_wp2_with fail)
        refine (G1.out _ _ _ (isD_n (m := m) (e := e) (s := .slice A6 (zl m) c6) (L.getN (by simp))) (isD_n (m := n) (e := f) (s := .slice B6 (zl n) d6) (L.getN (by simp)))).mono ?_
        rintro e w12 ⟨rfl, be⟩
        clear c00 c01 c02 c03 c04 c05
        replace L := L.step be
        clear be
        go_upto_if 35 with fail
        go_cut [] from 36 to 42 (fun wx => ∃ (m e n f : Int) (A B : Option Addr) (c d : Nat), Lq w wx [(.slice A (zl m) c, m.natAbs), (.slice B (zl n) d, n.natAbs)] [] [] [(g6, 28, #[.bool (ng m), .slice A (zl m) c, .int .i64 e, .bool (ng n), .slice B (zl n) d, .int .i64 f]), (w.heap.size + 1, 28, #[.bool false, .slice none 0 0, .int .i64 0, .bool false, .slice none 0 0, .int .i64 0])] ∧ Hid (ArgP m e n f))
        case first =>
          rcases Int.lt_or_le 0 cm with hcm | hcm
          · have d1 : decide (0 < cm) = true := decide_eq_true hcm
            have HQ := Lib.hid (HP2.out hcm)
            have c00 := L.b0.c60
            have f00 := L.b0.fr 0
            have c01 := L.b0.c61
            have f01 := L.b0.fr 1
            have c02 := L.b0.c62
            have f02 := L.b0.fr 2
            have c03 := L.b0.c63
            have f03 := L.b0.fr 3
            have c04 := L.b0.c64
            have f04 := L.b0.fr 4
            have c05 := L.b0.c65
            have f05 := L.b0.fr 5
            have P1 := L.putLo (by omega) (by simp; omega) (ng n) B6 (zl n) d6 f
            have p0 := P1.b0.c60
            have p1 := P1.b0.c61
            have p2 := P1.b0.c62
            have p3 := P1.b0.c63
            have p4 := P1.b0.c64
            have p5 := P1.b0.c65
            have q0 := P1.b0.fr 0
            have q1 := P1.b0.fr 1
            have q2 := P1.b0.fr 2
            have q3 := P1.b0.fr 3
            have q4 := P1.b0.fr 4
            have q5 := P1.b0.fr 5
            have P := P1.putHi (by omega) (by simp; omega) (ng m) A6 (zl m) c6 e
            go_wp2_with fail
            go_meet
            exact ⟨n, f, m, e, B6, A6, d6, c6, P.subx (by simp) (by simp), HQ⟩
          · have d1 : decide (0 < cm) = false := decide_eq_false (by omega)
            have HQ := Lib.hid (HP1.out hcm)
            go_wp2_with fail
            go_meet
            exact ⟨m, e, n, f, A6, B6, c6, d6, L.subx (by simp) (by simp), HQ⟩
        case rest =>
          clear L HP1 HP2 G1
          obtain ⟨m, e, n, f, A, B, c, d, L, HQ⟩ := hcut
          generalize wc = wd9 at *
          have hz := HQ.out.lo.z
          have g1 := fun x W h => rsign8_any m e x W h (by omega)
          obtain ⟨s, hs⟩ : ∃ s, cmpI m 0 = s := ⟨_, rfl⟩
          have hsm : 0 < s → 0 < m := by
            rw [← hs]
            intro h
            unfold cmpI at h
            (repeat' split at h) <;> omega
          rw [hs] at g1
          have G1 := Lib.hid g1
          have HSM := Lib.hid hsm
          clear g1 hs hsm hz
          have c00 := L.b0.c60
          have c01 := L.b0.c61
          have c02 := L.b0.c62
          have c03 := L.b0.c63
          have c04 := L.b0.c64
          have c05 := L.b0.c65
          go_upto_region 10 with fail
          clear c00 c01 c02 c03 c04 c05
          replace L := L.swap.drew
          go_cut [3] from 42 to 47 (fun s3 wx => s3 = .bool (decide (0 < s)) ∧ Lq w wx [(.slice A (zl m) c, m.natAbs), (.slice B (zl n) d, n.natAbs)] [] [] [(w.heap.size + 1, 28, #[.bool (ng m), .slice A (zl m) c, .int .i64 e, .bool (ng n), .slice B (zl n) d, .int .i64 f])])
          case first =>
            have c00 := L.b0.c60
            have f00 := L.b0.fr 0
            have c01 := L.b0.c61
            have f01 := L.b0.fr 1
            have c02 := L.b0.c62
            have f02 := L.b0.fr 2
            have c03 := L.b0.c63
            have f03 := L.b0.fr 3
            have c04 := L.b0.c64
            have f04 := L.b0.fr 4
            have c05 := L.b0.c65
            have f05 := L.b0.fr 5
            go_region_held3 (fun w' => w'.cell? ⟨g6, 0, none⟩ = some (.bool (ng m)) ∧ w'.cell? ⟨g6, 1, none⟩ = some (.slice A (zl m) c) ∧ w'.cell? ⟨g6, 2, none⟩ = some (.int .i64 e) ∧ w'.cell? ⟨g6, 3, none⟩ = some (.bool (ng n)) ∧ w'.cell? ⟨g6, 4, none⟩ = some (.slice B (zl n) d) ∧ w'.cell? ⟨g6, 5, none⟩ = some (.int .i64 f)) (first | (with_reducible exact ⟨L.tl.b0.c60, L.tl.b0.c61, L.tl.b0.c62, L.tl.b0.c63, L.tl.b0.c64, L.tl.b0.c65⟩) | (have LP := L.putI (by omega) (by simp; omega) (ng m) A (zl m) c e (ng n) B (zl n) d f; unfold put6 at LP; with_reducible exact ⟨LP.tl.b0.c60, LP.tl.b0.c61, LP.tl.b0.c62, LP.tl.b0.c63, LP.tl.b0.c64, LP.tl.b0.c65⟩) | exact ⟨L.tl.b0.c60, L.tl.b0.c61, L.tl.b0.c62, L.tl.b0.c63, L.tl.b0.c64, L.tl.b0.c65⟩) (first | (go_at_call 18; (with_reducible refine (G1.out _ _ ?_).mono ?_); (· (first | (refine isD_n (L.getN ?_); ((repeat (first | (with_reducible exact List.mem_cons_self) | apply List.mem_cons_of_mem)))) | (have LP := L.putI (by omega) (by simp; omega) (ng m) A (zl m) c e (ng n) B (zl n) d f; unfold put6 at LP; refine isD_n (LP.getN ?_); ((repeat (first | (with_reducible exact List.mem_cons_self) | apply List.mem_cons_of_mem)))))); rintro e9 wh ⟨rfl, be⟩; (first | (replace L := L.step be) | (have LP := L.putI (by omega) (by simp; omega) (ng m) A (zl m) c e (ng n) B (zl n) d f; unfold put6 at LP; replace L := LP.step be)); have x0 := L.b0.fr 0; have x1 := L.b0.fr 1; have x2 := L.b0.fr 2; have x3 := L.b0.fr 3; have x4 := L.b0.fr 4; have x5 := L.b0.fr 5; have y0 := L.b0.c60; have y1 := L.b0.c61; have y2 := L.b0.c62; have y3 := L.b0.c63; have y4 := L.b0.c64; have y5 := L.b0.c65))
            all_goals
              go_wp2_with fail
              go_meet
              first
              | with_reducible exact ⟨rfl, L.sub1 (by simp) (by simp)⟩
              | (have LP := L.putI (by omega) (by simp; omega) (ng m) A (zl m) c e (ng n) B (zl n) d f
                 unfold put6 at LP
                 with_reducible exact ⟨rfl, LP.sub1 (by simp) (by simp)⟩)
          case rest =>
            clear L
            obtain ⟨rfl, L⟩ := hcut
            generalize wc = wd8 at *
            have c00 := L.b0.c60
            have f00 := L.b0.fr 0
            have c01 := L.b0.c61
            have f01 := L.b0.fr 1
            have c02 := L.b0.c62
            have f02 := L.b0.fr 2
            have c03 := L.b0.c63
            have f03 := L.b0.fr 3
            have c04 := L.b0.c64
            have f04 := L.b0.fr 4
            have c05 := L.b0.c65
            have f05 := L.b0.fr 5
            go_wp2_with fail
            exact bodyPost_ret (v := .tuple #[.agg #[.bool (ng m), .slice A (zl m) c, .int .i64 e, .bool (ng n), .slice B (zl n) d, .int .i64 f], .bool (decide (0 < s))]) (by simp [results, Tryz.results10, go_sem, c00, c01, c02, c03, c04, c05]) rfl ⟨_, _, m, e, n, f, rfl, isI_n (L.getN (by simp)) (L.getN (by simp)), L.below, fun h => HQ.out.pos (HSM.out (of_decide_eq_true h))⟩

set_option maxHeartbeats 4000000 in
theorem dshift_any (m e k : Int) (vx : Value) (w : World) (hx : IsD w vx m e) (lm : zl m ≤ 20000) (he : -1000000 ≤ e ∧ e ≤ 1000000) (hk : -65536 ≤ k ∧ k ≤ 65536) (hT : Tab w) :
    Calls Tryz.prog 77 #[vx, .int .i64 k] w (RetDE w (mkM m (e + k)) (mkE m (e + k)) (mkR m (e + k))) := by
  obtain ⟨A, c, rfl, hz, hn⟩ := hx.form
  have L0 := (Lq.mk0 w).z hz
  obtain ⟨s, hs⟩ : ∃ s, e + k = s := ⟨_, rfl⟩
  have hw : IntKind.i64.wrap (e + k) = s := by rw [← hs, IntKind.wrap_i64]; omega
  have hw0 := fun W => within_any k 65536 W (by omega) (by omega)
  have hin : (decide (-65536 ≤ k) && decide (k ≤ 65536)) = true := by rw [decide_eq_true hk.1, decide_eq_true hk.2]; rfl
  rw [hin] at hw0
  have HW := Lib.hid hw0
  have HM0 := fun v W h (hW : Below w.heap.size w W) => dmake_any m s v W h (by omega) (hT.mono hW)
  rw [hs]
  generalize mkM m s = M at *
  generalize mkE m s = E at *
  generalize mkR m s = R at *
  have HM := Lib.hid HM0
  clear HM0 hw0 hin hs hx hz hn lm he hk hT
  go_enter Tryz.func77, Tryz.ntmps77
  go_wp2_with fail
  have L := ((L0.varD (w.heap.size) (by simp) (ng m) A (zl m) c e).varD (w.heap.size + 1) (by simp) false none 0 0 0)
  have c00 := L.b0.c30
  have f00 := L.b0.fr 0
  have c01 := L.b0.c31
  have f01 := L.b0.fr 1
  have c02 := L.b0.c32
  have f02 := L.b0.fr 2
  have c10 := L.tl.b0.c30
  have f10 := L.tl.b0.fr 0
  have c11 := L.tl.b0.c31
  have f11 := L.tl.b0.fr 1
  have c12 := L.tl.b0.c32
  have f12 := L.tl.b0.fr 2
  (try go_wp2_with fail)
  refine (HW.out _).mono ?_
  rintro e9 w' ⟨rfl, rfl⟩
  (try go_wp2_with fail)
  refine (HM.out _ _ (L.getZ (v := .agg #[.bool (ng m), .slice A (zl m) c]) (by simp)) L.below).mono ?_
  rintro e w1 ⟨v8, rfl, id, be⟩
  clear c00 f00 c01 f01 c02 f02 c10 f10 c11 f11 c12 f12
  obtain ⟨A9, c9, rfl, _, in9⟩ := id.form
  replace L := (L.step be).n in9
  clear be in9 id
  have c00 := L.b0.c30
  have f00 := L.b0.fr 0
  have c01 := L.b0.c31
  have f01 := L.b0.fr 1
  have c02 := L.b0.c32
  have f02 := L.b0.fr 2
  have c10 := L.tl.b0.c30
  have c11 := L.tl.b0.c31
  have c12 := L.tl.b0.c32
  (try go_wp2_with fail)
  have LP := L.putD (by omega) (by first | (simp; done) | (simp; omega)) (ng M) A9 (zl M) c9 (E)
  have k0 := LP.b0.c30
  have k1 := LP.b0.c31
  have k2 := LP.b0.c32
  unfold put3 at k0 k1 k2
  exact bodyPost_ret (v := .tuple #[.agg #[.bool (ng M), .slice A9 (zl M) c9, .int .i64 (E)], .int .i64 R]) (by simp [results, Tryz.results77, go_sem, k0, k1, k2]) rfl ⟨_, rfl, isD_n LP.hn, LP.below⟩
theorem own_lit0 (w : World) : Own (w.alloc (.cells #[] 137)) w.heap.size (.slice (some ⟨w.heap.size, 0, none⟩) 0 0) [] :=
  ⟨World.ownsRow_lit w #[] 0 (Nat.le_refl _) (by unfold maxLen; omega) rfl, small_nil⟩
/-- A natural, in memory that is not an argument's. -/
def RetNn (w : World) (x : Nat) (en : Ending) (w' : World) : Prop := ∃ v, en = .returned v ∧ IsN w' v x ∧ Below w.heap.size w w'
set_option maxHeartbeats 2000000 in
theorem clone_any (x : Nat) (vx : Value) (w : World) (hx : IsN w vx x) (hl : len x ≤ 1000000) :
    Calls Tryz.prog 209 #[vx] w (RetNn w x) := by
  obtain ⟨A, n, c, rfl, hs⟩ := hx
  have qT : ∀ (w : World) (a : Option Addr) (n c n' c' : Nat), (binOp .eql 22 (.slice a n c) (.slice none n' c')).run Tryz.prog w = .ok (.bool a.isNone) w := fun w a n c n' c' => Lib.run_eql_slice_nil w _ _ a n c n' c' Tryz.underlying22
  have hn : len x = n := by rw [← length_dig]; exact hs.len
  cases A with
  | none =>
    have hx0 : x = 0 := by
      rcases Nat.eq_zero_or_pos n with h0 | h0
      · rw [h0] at hn
        rcases Nat.eq_zero_or_pos x with h1 | h1
        · exact h1
        · have := len_pos h1
          omega
      · obtain ⟨_, _, e, _⟩ := hs.place h0
        cases e
    subst hx0
    clear hs hn hl
    go_enter Tryz.func209, Tryz.ntmps209
    go_wp2_with fail
    go_ret
    exact ⟨_, rfl, IsN.zero _, Below.refl _ _⟩
  | some a =>
    have hsl : n ≤ 1000000 := by omega
    have HS := Lib.hid hs
    clear hs hn hl
    go_enter Tryz.func209, Tryz.ntmps209
    go_wp2_with (at_builtin; refine wp_appS _ rfl _ _ rfl w.heap.size _ [] rfl (own_lit0 w) (some a) n c (dig x) rfl (HS.out.mono ((Below.refl _ w).alloc (Nat.le_refl _) _)) (by simp; omega) (by simp) ?_)
    intro v2 w2 h2 g2
    have b2 := ((Below.refl w.heap.size w).alloc (Nat.le_refl _) (.cells #[] 137)).grown g2 (by simp) (fun k hk => (own_lit0 w).blockGe k hk)
    have h2' : Own w2 w.heap.size v2 (dig x) := h2
    obtain ⟨A2, c2, e2, hs2, _⟩ := h2'.form
    clear h2 g2 h2'
    go_wp2_with fail
    go_ret
    exact ⟨v2, rfl, ⟨A2, _, c2, e2, hs2⟩, b2⟩

set_option maxHeartbeats 4000000 in
theorem icopied_any (m e : Int) (vx : Value) (w : World) (hx : IsD w vx m e) (lm : zl m ≤ 1000) :
    Calls Tryz.prog 201 #[vx] w (RetD8 w m e) := by
  obtain ⟨A, c, rfl, _, hn1⟩ := hx.form
  have L0 := (Lq.mk0 w).n hn1
  have HC := Lib.hid (fun v W h => clone_any m.natAbs v W h (show len m.natAbs ≤ 1000000 from Nat.le_trans lm (by omega)))
  clear hx hn1 lm
  go_enter Tryz.func201, Tryz.ntmps201
  go_wp2_with fail
  have L := ((L0.varD (w.heap.size) (by simp) (ng m) A (zl m) c e).varD (w.heap.size + 1) (by simp) false none 0 0 0)
  have c00 := L.b0.c30
  have f00 := L.b0.fr 0
  have c01 := L.b0.c31
  have f01 := L.b0.fr 1
  have c02 := L.b0.c32
  have f02 := L.b0.fr 2
  have c10 := L.tl.b0.c30
  have f10 := L.tl.b0.fr 0
  have c11 := L.tl.b0.c31
  have f11 := L.tl.b0.fr 1
  have c12 := L.tl.b0.c32
  have f12 := L.tl.b0.fr 2
  (try go_wp2_with fail)
  refine (HC.out _ _ (L.getN (v := .slice A (zl m) c) (x := (m).natAbs) (by simp))).mono ?_
  rintro e w1 ⟨v9, rfl, in9, be⟩
  clear c00 f00 c01 f01 c02 f02 c10 f10 c11 f11 c12 f12
  obtain ⟨A9, c9, e9⟩ := in9.form
  replace e9 : v9 = .slice A9 (zl m) c9 := e9
  subst e9
  replace L := (L.step be).n in9
  clear be in9
  replace L := L.swap
  have c00 := L.b0.c30
  have f00 := L.b0.fr 0
  have c01 := L.b0.c31
  have f01 := L.b0.fr 1
  have c02 := L.b0.c32
  have f02 := L.b0.fr 2
  have c10 := L.tl.b0.c30
  have f10 := L.tl.b0.fr 0
  have c11 := L.tl.b0.c31
  have f11 := L.tl.b0.fr 1
  have c12 := L.tl.b0.c32
  have f12 := L.tl.b0.fr 2
  have LS : Lq _ _ _ _ _ ((w.heap.size, 26, #[.bool (ng m), .slice A9 (zl m) c9, .int .i64 e]) :: _) := L.set (by omega) (by first | (simp; done) | (simp; omega)) 1 (.slice A9 (zl m) c9) (by intro x e; cases e)
  have s00 := LS.b0.c30
  have s01 := LS.b0.c31
  have s02 := LS.b0.c32
  have r00 := LS.tl.b0.fr 0
  have r01 := LS.tl.b0.fr 1
  have r02 := LS.tl.b0.fr 2
  (try go_wp2_with fail)
  clear s00 s01 s02 r00 r01 r02
  replace L := LS.swap
  clear LS
  have LP := L.putD (by omega) (by first | (simp; done) | (simp; omega)) (ng m) A9 (zl m) c9 (e)
  have k0 := LP.b0.c30
  have k1 := LP.b0.c31
  have k2 := LP.b0.c32
  unfold put3 at k0 k1 k2
  exact bodyPost_ret (v := .agg #[.bool (ng m), .slice A9 (zl m) c9, .int .i64 (e)]) (by simp [results, Tryz.results201, go_sem, k0, k1, k2]) rfl ⟨_, rfl, isD_n (LP.getN (by simp)), LP.below⟩
set_option maxHeartbeats 8000000 in
theorem ibetween_any (m e n f : Int) (vx vy : Value) (w : World) (hx : IsD w vx m e) (hy : IsD w vy n f) (lm : zl m ≤ 1000) (ln : zl n ≤ 1000) (he : -70000 ≤ e ∧ e ≤ 70000) (hf : -70000 ≤ f ∧ f ≤ 70000) :
    Calls Tryz.prog 182 #[vx, vy] w (RetI6 w m e n f) := by
  obtain ⟨A, c, rfl, _, hn1⟩ := hx.form
  obtain ⟨B, d, rfl, _, hn2⟩ := hy.form
  have L0 := ((Lq.mk0 w).n hn2).n hn1
  have H1 := Lib.hid (fun v W h => icopied_any m e v W h lm)
  have H2 := Lib.hid (fun v W h => icopied_any n f v W h ln)
  clear hx hy hn1 hn2 lm ln he hf
  go_enter Tryz.func182, Tryz.ntmps182
  go_wp2_with fail
  have L := (((L0.varD (w.heap.size) (by simp) (ng m) A (zl m) c e).varD (w.heap.size + 1) (by simp) (ng n) B (zl n) d f).varI (w.heap.size + 2) (by simp) false none 0 0 0 false none 0 0 0)
  replace L := L.drew
  have c00 := L.b0.c60
  have f00 := L.b0.fr 0
  have c01 := L.b0.c61
  have f01 := L.b0.fr 1
  have c02 := L.b0.c62
  have f02 := L.b0.fr 2
  have c03 := L.b0.c63
  have f03 := L.b0.fr 3
  have c04 := L.b0.c64
  have f04 := L.b0.fr 4
  have c05 := L.b0.c65
  have f05 := L.b0.fr 5
  have c10 := L.tl.b0.c30
  have c11 := L.tl.b0.c31
  have c12 := L.tl.b0.c32
  have c20 := L.tl.tl.b0.c30
  have c21 := L.tl.tl.b0.c31
  have c22 := L.tl.tl.b0.c32
  go_region_held3 (fun w' => w'.cell? ⟨w.heap.size, 0, none⟩ = some (.bool (ng m)) ∧ w'.cell? ⟨w.heap.size, 1, none⟩ = some (.slice A (zl m) c) ∧ w'.cell? ⟨w.heap.size, 2, none⟩ = some (.int .i64 e) ∧ w'.cell? ⟨w.heap.size + 1, 0, none⟩ = some (.bool (ng n)) ∧ w'.cell? ⟨w.heap.size + 1, 1, none⟩ = some (.slice B (zl n) d) ∧ w'.cell? ⟨w.heap.size + 1, 2, none⟩ = some (.int .i64 f)) (first | (with_reducible exact ⟨L.tl.tl.b0.c30, L.tl.tl.b0.c31, L.tl.tl.b0.c32, L.tl.b0.c30, L.tl.b0.c31, L.tl.b0.c32⟩) | (have LP := L.putI (by omega) (by first | (simp; done) | (simp; omega)) (ng m) A8 (zl m) c8 (e) (ng n) A9 (zl n) c9 (f); unfold put6 at LP; with_reducible exact ⟨LP.tl.tl.b0.c30, LP.tl.tl.b0.c31, LP.tl.tl.b0.c32, LP.tl.b0.c30, LP.tl.b0.c31, LP.tl.b0.c32⟩) | exact ⟨L.tl.tl.b0.c30, L.tl.tl.b0.c31, L.tl.tl.b0.c32, L.tl.b0.c30, L.tl.b0.c31, L.tl.b0.c32⟩) (first | (go_at_call 201; (with_reducible refine (H1.out _ _ ?_ ).mono ?_); (· (refine isD_n (L.getN ?_); (repeat (first | (with_reducible exact List.mem_cons_self) | apply List.mem_cons_of_mem)))); rintro e wh ⟨vh, rfl, id, be⟩; obtain ⟨A8, c8, rfl, _, in9⟩ := id.form; replace L := (L.step be).n in9; clear be id in9; (try (have x00 := L.b0.c60; have y00 := L.b0.fr 0; have x01 := L.b0.c61; have y01 := L.b0.fr 1; have x02 := L.b0.c62; have y02 := L.b0.fr 2; have x03 := L.b0.c63; have y03 := L.b0.fr 3; have x04 := L.b0.c64; have y04 := L.b0.fr 4; have x05 := L.b0.c65; have y05 := L.b0.fr 5))) | (go_at_call 201; (with_reducible refine (H2.out _ _ ?_ ).mono ?_); (· (refine isD_n (L.getN ?_); (repeat (first | (with_reducible exact List.mem_cons_self) | apply List.mem_cons_of_mem)))); rintro e wh ⟨vh, rfl, id, be⟩; obtain ⟨A9, c9, rfl, _, in9⟩ := id.form; replace L := (L.step be).n in9; clear be id in9; (try (have x00 := L.b0.c60; have y00 := L.b0.fr 0; have x01 := L.b0.c61; have y01 := L.b0.fr 1; have x02 := L.b0.c62; have y02 := L.b0.fr 2; have x03 := L.b0.c63; have y03 := L.b0.fr 3; have x04 := L.b0.c64; have y04 := L.b0.fr 4; have x05 := L.b0.c65; have y05 := L.b0.fr 5))))
  clear c00 f00 c01 f01 c02 f02 c03 f03 c04 f04 c05 f05 c10 c11 c12 c20 c21 c22
  go_wp2_with fail
  have LP := L.putI (by omega) (by first | (simp; done) | (simp; omega)) (ng m) A8 (zl m) c8 e (ng n) A9 (zl n) c9 f
  have k0 := LP.b0.c60
  have k1 := LP.b0.c61
  have k2 := LP.b0.c62
  have k3 := LP.b0.c63
  have k4 := LP.b0.c64
  have k5 := LP.b0.c65
  unfold put6 at k0 k1 k2 k3 k4 k5
  exact bodyPost_ret (v := .agg #[.bool (ng m), .slice A8 (zl m) c8, .int .i64 e, .bool (ng n), .slice A9 (zl n) c9, .int .i64 f]) (by simp [results, Tryz.results182, go_sem, k0, k1, k2, k3, k4, k5]) rfl ⟨_, rfl, isI_n (LP.getN (by simp)) (LP.getN (by simp)), LP.below⟩
set_option maxHeartbeats 4000000 in
theorem i10point_any (m e : Int) (vx : Value) (w : World) (hx : IsD w vx m e) (lm : zl m ≤ 1000) (he : -20000 ≤ e ∧ e ≤ 20000) (_hv : Dv m e) :
    Calls Tryz.prog 146 #[vx] w (RetI6 w m e m e) := by
  obtain ⟨A, c, rfl, _, hn1⟩ := hx.form
  have L0 := (Lq.mk0 w).n hn1
  have H1 := Lib.hid (fun v u W k1 k2 => ibetween_any m e m e v u W k1 k2 lm lm (by omega) (by omega))
  clear hx hn1 lm he
  go_enter Tryz.func146, Tryz.ntmps146
  go_wp2_with fail
  have L := ((L0.varD (w.heap.size) (by simp) (ng m) A (zl m) c e).varI (w.heap.size + 1) (by simp) false none 0 0 0 false none 0 0 0)
  have c00 := L.b0.c60
  have f00 := L.b0.fr 0
  have c01 := L.b0.c61
  have f01 := L.b0.fr 1
  have c02 := L.b0.c62
  have f02 := L.b0.fr 2
  have c03 := L.b0.c63
  have f03 := L.b0.fr 3
  have c04 := L.b0.c64
  have f04 := L.b0.fr 4
  have c05 := L.b0.c65
  have f05 := L.b0.fr 5
  have c10 := L.tl.b0.c30
  have c11 := L.tl.b0.c31
  have c12 := L.tl.b0.c32
  (try go_wp2_with fail)
  refine (H1.out _ _ _ (isD_n (m := m) (e := e) (s := .slice A (zl m) c) (L.getN (v := .slice A (zl m) c) (x := (m).natAbs) (by simp))) (isD_n (m := m) (e := e) (s := .slice A (zl m) c) (L.getN (v := .slice A (zl m) c) (x := (m).natAbs) (by simp)))).mono ?_
  rintro e w1 ⟨v8, rfl, ii, be⟩
  clear c00 f00 c01 f01 c02 f02 c03 f03 c04 f04 c05 f05 c10 c11 c12
  obtain ⟨A8, c8, B8, d8, rfl, ia, ib⟩ := ii.form
  replace L := ((L.step be).n ib).n ia
  clear be ii ia ib
  have c00 := L.b0.c60
  have f00 := L.b0.fr 0
  have c01 := L.b0.c61
  have f01 := L.b0.fr 1
  have c02 := L.b0.c62
  have f02 := L.b0.fr 2
  have c03 := L.b0.c63
  have f03 := L.b0.fr 3
  have c04 := L.b0.c64
  have f04 := L.b0.fr 4
  have c05 := L.b0.c65
  have f05 := L.b0.fr 5
  (try go_wp2_with fail)
  have LP := L.putI (by omega) (by first | (simp; done) | (simp; omega)) (ng m) A8 (zl m) c8 e (ng m) B8 (zl m) d8 e
  have k0 := LP.b0.c60
  have k1 := LP.b0.c61
  have k2 := LP.b0.c62
  have k3 := LP.b0.c63
  have k4 := LP.b0.c64
  have k5 := LP.b0.c65
  unfold put6 at k0 k1 k2 k3 k4 k5
  exact bodyPost_ret (v := .agg #[.bool (ng m), .slice A8 (zl m) c8, .int .i64 e, .bool (ng m), .slice B8 (zl m) d8, .int .i64 e]) (by simp [results, Tryz.results146, go_sem, k0, k1, k2, k3, k4, k5]) rfl ⟨_, rfl, isI_n (LP.getN (by simp)) (LP.getN (by simp)), LP.below⟩
set_option maxHeartbeats 100000000 in
theorem adiv_pos (m e n f m2 e2 n2 f2 k : Int) (vx vy : Value) (w : World) (hx : IsI w vx m e n f) (hy : IsI w vy m2 e2 n2 f2) (lm : zl m ≤ 140) (ln : zl n ≤ 140) (lm2 : zl m2 ≤ 140) (ln2 : zl n2 ≤ 140) (he : -4500 ≤ e ∧ e ≤ 4500) (hf : -4500 ≤ f ∧ f ≤ 4500) (he2 : -4500 ≤ e2 ∧ e2 ≤ 4500) (hf2 : -4500 ≤ f2 ∧ f2 ≤ 4500) (hd1 : dcm m e n f ≤ 0) (hd2 : dcm m2 e2 n2 f2 ≤ 0) (hk1 : -9223372036854775808 ≤ k) (hk2 : k ≤ 9223372036854775807) (hT : Tab w) (hw : workB k = true) (hxy : cmpI m2 0 = cmpI n2 0) (hx0 : ¬ cmpI m2 0 = 0) (hx1 : ¬ cmpI m2 0 < 0) :
    Calls Tryz.prog 145 #[vx, vy, .int .i64 k] w (RetEn w (min4 (dq m e / dq m2 e2) (dq m e / dq n2 f2) (dq n f / dq m2 e2) (dq n f / dq n2 f2)) (max4 (dq m e / dq m2 e2) (dq m e / dq n2 f2) (dq n f / dq m2 e2) (dq n f / dq n2 f2)) k) := by
  obtain ⟨A, c, B, d, rfl, hn1, hn2⟩ := hx.form
  obtain ⟨A2, k2, B2, d2, rfl, hn3, hn4⟩ := hy.form
  have L0 := ((((Lq.mk0 w).n hn4).n hn3).n hn2).n hn1
  have S0 := fun v W h => i10sign_any m2 e2 n2 f2 v W h (by omega) (by omega) (by omega) (by omega)
  have HW0 := fun W => aperm_any k W
  unfold RetSg at S0
  rw [hw] at HW0
  have HW := Lib.hid HW0
  clear HW0
  obtain ⟨ps1, ps2⟩ := (cmp_signs hxy).2 hx1 hx0
  obtain ⟨x, hx9⟩ : ∃ x, cmpI m2 0 = x := ⟨_, rfl⟩
  rw [if_pos hxy, decide_eq_true hxy] at S0
  rw [hx9] at S0 hx0 hx1
  have S := Lib.hid S0
  clear S0 hx9 hxy
  have b1 : (x == 0) = false := by simpa using hx0
  obtain ⟨lo, hlo⟩ : ∃ z, min4 (dq m e / dq m2 e2) (dq m e / dq n2 f2) (dq n f / dq m2 e2) (dq n f / dq n2 f2) = z := ⟨_, rfl⟩
  obtain ⟨hi, hhi⟩ : ∃ z, max4 (dq m e / dq m2 e2) (dq m e / dq n2 f2) (dq n f / dq m2 e2) (dq n f / dq n2 f2) = z := ⟨_, rfl⟩
  rw [hlo, hhi]
  have b2 : decide (x < 0) = false := decide_eq_false hx1
  have fl : min4 (dq m e / dq m2 e2) (dq m e / dq n2 f2) (dq n f / dq m2 e2) (dq n f / dq n2 f2) = lo := hlo
  have fh : max4 (dq m e / dq m2 e2) (dq m e / dq n2 f2) (dq n f / dq m2 e2) (dq n f / dq n2 f2) = hi := hhi
  have bs1 := fun v u z W h1 h2 h3 => absign_any m e m2 e2 n2 f2 v u z W h1 h2 h3 (by omega)
  have v1 := quo_lo hd1 hd2 ps1 ps2
  obtain ⟨p1, hp1⟩ : ∃ p, (if m < 0 then m2 else n2) = p := ⟨_, rfl⟩
  obtain ⟨s1, hs1⟩ : ∃ p, (if m < 0 then e2 else f2) = p := ⟨_, rfl⟩
  have pb1 : zl p1 ≤ 140 ∧ (-4500 ≤ s1 ∧ s1 ≤ 4500) ∧ p1 ≠ 0 := by rw [← hp1, ← hs1]; split <;> refine ⟨by omega, by omega, by omega⟩
  rw [hp1, hs1] at bs1 v1
  have qu1 := fun v u W h1 h2 => aquot_any m e p1 s1 v u W h1 h2 (by omega) (by omega) (by omega) (by omega) pb1.2.2
  have qs1 := qt_small (m := m) (e := e) (n := p1) (f := s1) pb1.2.2 (by omega) (by omega) (by omega) (by omega)
  have qp1 := qt_pos m e p1 s1
  obtain ⟨qa1, ha1⟩ : ∃ x, qtA m e p1 s1 = x := ⟨_, rfl⟩
  obtain ⟨qd1, hdd1⟩ : ∃ x, qtD m e p1 s1 = x := ⟨_, rfl⟩
  rw [ha1, hdd1] at v1 qu1 qs1
  rw [hdd1] at qp1
  rw [fl] at v1
  have bs2 := fun v u z W h1 h2 h3 => absign_any n f n2 f2 m2 e2 v u z W h1 h2 h3 (by omega)
  have v2 := quo_hi hd1 hd2 ps1 ps2
  obtain ⟨p2, hp2⟩ : ∃ p, (if n < 0 then n2 else m2) = p := ⟨_, rfl⟩
  obtain ⟨s2, hs2⟩ : ∃ p, (if n < 0 then f2 else e2) = p := ⟨_, rfl⟩
  have pb2 : zl p2 ≤ 140 ∧ (-4500 ≤ s2 ∧ s2 ≤ 4500) ∧ p2 ≠ 0 := by rw [← hp2, ← hs2]; split <;> refine ⟨by omega, by omega, by omega⟩
  rw [hp2, hs2] at bs2 v2
  have qu2 := fun v u W h1 h2 => aquot_any n f p2 s2 v u W h1 h2 (by omega) (by omega) (by omega) (by omega) pb2.2.2
  have qs2 := qt_small (m := n) (e := f) (n := p2) (f := s2) pb2.2.2 (by omega) (by omega) (by omega) (by omega)
  have qp2 := qt_pos n f p2 s2
  obtain ⟨qa2, ha2⟩ : ∃ x, qtA n f p2 s2 = x := ⟨_, rfl⟩
  obtain ⟨qd2, hdd2⟩ : ∃ x, qtD n f p2 s2 = x := ⟨_, rfl⟩
  rw [ha2, hdd2] at v2 qu2 qs2
  rw [hdd2] at qp2
  rw [fh] at v2
  have en := fun v u W h1 h2 (hW : Below w.heap.size w W) => aenclR_any qa1 qd1 qa2 qd2 k v u W h1 h2 qs1.1 qs1.2 qp1 qs2.1 qs2.2 qp2 hw (hT.mono hW)
  rw [v1, v2] at en
  have BS1 := Lib.hid bs1
  have BS2 := Lib.hid bs2
  have QU1 := Lib.hid qu1
  have QU2 := Lib.hid qu2
  have EN := Lib.hid en
  clear bs1 bs2 qu1 qu2 en v1 v2 hp1 hp2 hs1 hs2 pb1 pb2 qs1 qs2 qp1 qp2 ha1 ha2 hdd1 hdd2
  clear fl fh hlo hhi hw hx0 hx1 ps1 ps2 hx hy hn1 hn2 hn3 hn4 lm ln lm2 ln2 he hf he2 hf2 hd1 hd2 hk1 hk2 hT
  go_enter Tryz.func145, Tryz.ntmps145
  go_wp2_with fail
  have L := (((L0.varI (w.heap.size) (by simp) (ng m) A (zl m) c e (ng n) B (zl n) d f).varI (w.heap.size + 1) (by simp) (ng m2) A2 (zl m2) k2 e2 (ng n2) B2 (zl n2) d2 f2).varI (w.heap.size + 2) (by simp) false none 0 0 0 false none 0 0 0)
  obtain ⟨gr, hgr⟩ : ∃ gr, w.heap.size + 1 + 1 = gr := ⟨_, rfl⟩
  have hgr2 : w.heap.size + 2 = gr := hgr
  rw [hgr2] at L
  rw [hgr]
  have hgr3 : w.heap.size + 1 < gr := by omega
  clear hgr hgr2
  have c00 := L.b0.c60
  have f00 := L.b0.fr 0
  have c01 := L.b0.c61
  have f01 := L.b0.fr 1
  have c02 := L.b0.c62
  have f02 := L.b0.fr 2
  have c03 := L.b0.c63
  have f03 := L.b0.fr 3
  have c04 := L.b0.c64
  have f04 := L.b0.fr 4
  have c05 := L.b0.c65
  have f05 := L.b0.fr 5
  have c10 := L.tl.b0.c60
  have c11 := L.tl.b0.c61
  have c12 := L.tl.b0.c62
  have c13 := L.tl.b0.c63
  have c14 := L.tl.b0.c64
  have c15 := L.tl.b0.c65
  (try go_wp2_with fail)
  refine (S.out _ _ (isI_n (m := m2) (e := e2) (n := n2) (f := f2) (L.getN (v := .slice A2 (zl m2) k2) (x := (m2).natAbs) (by simp)) (L.getN (v := .slice B2 (zl n2) d2) (x := (n2).natAbs) (by simp)))).mono ?_
  rintro e w1 ⟨rfl, be⟩
  clear c00 f00 c01 f01 c02 f02 c03 f03 c04 f04 c05 f05 c10 c11 c12 c13 c14 c15
  replace L := L.step be
  clear be
  have c00 := L.b0.c60
  have f00 := L.b0.fr 0
  have c01 := L.b0.c61
  have f01 := L.b0.fr 1
  have c02 := L.b0.c62
  have f02 := L.b0.fr 2
  have c03 := L.b0.c63
  have f03 := L.b0.fr 3
  have c04 := L.b0.c64
  have f04 := L.b0.fr 4
  have c05 := L.b0.c65
  have f05 := L.b0.fr 5
  (try go_wp2_with fail)
  refine (HW.out _).mono ?_
  rintro e9 w' ⟨rfl, rfl⟩
  (try go_wp2_with fail)
  clear c00 f00 c01 f01 c02 f02 c03 f03 c04 f04 c05 f05
  have Q0 := Lib.hid (fun Z (hZ : Below w1.heap.size w1 Z) => (L.tl.tl.b0.mono hZ).c60)
  have Q1 := Lib.hid (fun Z (hZ : Below w1.heap.size w1 Z) => (L.tl.tl.b0.mono hZ).c61)
  have Q2 := Lib.hid (fun Z (hZ : Below w1.heap.size w1 Z) => (L.tl.tl.b0.mono hZ).c62)
  have Q3 := Lib.hid (fun Z (hZ : Below w1.heap.size w1 Z) => (L.tl.tl.b0.mono hZ).c63)
  have Q4 := Lib.hid (fun Z (hZ : Below w1.heap.size w1 Z) => (L.tl.tl.b0.mono hZ).c64)
  have Q5 := Lib.hid (fun Z (hZ : Below w1.heap.size w1 Z) => (L.tl.tl.b0.mono hZ).c65)
  have Q6 := Lib.hid (fun Z (hZ : Below w1.heap.size w1 Z) => (L.tl.b0.mono hZ).c60)
  have Q7 := Lib.hid (fun Z (hZ : Below w1.heap.size w1 Z) => (L.tl.b0.mono hZ).c61)
  have Q8 := Lib.hid (fun Z (hZ : Below w1.heap.size w1 Z) => (L.tl.b0.mono hZ).c62)
  have Q9 := Lib.hid (fun Z (hZ : Below w1.heap.size w1 Z) => (L.tl.b0.mono hZ).c63)
  have Q10 := Lib.hid (fun Z (hZ : Below w1.heap.size w1 Z) => (L.tl.b0.mono hZ).c64)
  have Q11 := Lib.hid (fun Z (hZ : Below w1.heap.size w1 Z) => (L.tl.b0.mono hZ).c65)
  have hb1 := L.tl.tl.b0.lt
  have hb2 := L.tl.b0.lt
  have D0 : Dq w1 w1 [(.slice A (zl m) c, m.natAbs), (.slice B (zl n) d, n.natAbs), (.slice A2 (zl m2) k2, m2.natAbs), (.slice B2 (zl n2) d2, n2.natAbs)] [] [] [] := ⟨((((Lq.mk0 w1).n (L.getN (v := .slice B2 (zl n2) d2) (x := (n2).natAbs) (by simp))).n (L.getN (v := .slice A2 (zl m2) k2) (x := (m2).natAbs) (by simp))).n (L.getN (v := .slice B (zl n) d) (x := (n).natAbs) (by simp))).n (L.getN (v := .slice A (zl m) c) (x := (m).natAbs) (by simp)), List.nodup_nil, fun p hp => by cases hp⟩
  have D := D0.drew
  have LL := Lib.hid L
  clear L
  obtain ⟨K, hK⟩ : ∃ K, w1.heap.size = K := ⟨_, rfl⟩
  have hz0 : K ≤ w1.heap.size := by omega
  have hc1 : w.heap.size < K := by omega
  have hc2 : w.heap.size + 1 < K := by omega
  have hmd : w1.drew.heap.size = K := hK
  go_cut [10] from 40 to 50 (fun s5 wx => Made1Q w1 qa1 qd1 s5 wx)
  case first =>
    go_region_held3 (fun w' => w'.cell? ⟨w.heap.size, 0, none⟩ = some (.bool (ng m)) ∧ w'.cell? ⟨w.heap.size, 1, none⟩ = some (.slice A (zl m) c) ∧ w'.cell? ⟨w.heap.size, 2, none⟩ = some (.int .i64 e) ∧ w'.cell? ⟨w.heap.size, 3, none⟩ = some (.bool (ng n)) ∧ w'.cell? ⟨w.heap.size, 4, none⟩ = some (.slice B (zl n) d) ∧ w'.cell? ⟨w.heap.size, 5, none⟩ = some (.int .i64 f) ∧ w'.cell? ⟨w.heap.size + 1, 0, none⟩ = some (.bool (ng m2)) ∧ w'.cell? ⟨w.heap.size + 1, 1, none⟩ = some (.slice A2 (zl m2) k2) ∧ w'.cell? ⟨w.heap.size + 1, 2, none⟩ = some (.int .i64 e2) ∧ w'.cell? ⟨w.heap.size + 1, 3, none⟩ = some (.bool (ng n2)) ∧ w'.cell? ⟨w.heap.size + 1, 4, none⟩ = some (.slice B2 (zl n2) d2) ∧ w'.cell? ⟨w.heap.size + 1, 5, none⟩ = some (.int .i64 f2)) (((try dsimp only); refine ⟨?_, ?_, ?_, ?_, ?_, ?_, ?_, ?_, ?_, ?_, ?_, ?_⟩ <;> (repeat (first | (with_reducible exact Q0.out _ D.lq.below) | (with_reducible exact Q0.out _ D0.lq.below) | (with_reducible exact Q1.out _ D.lq.below) | (with_reducible exact Q1.out _ D0.lq.below) | (with_reducible exact Q2.out _ D.lq.below) | (with_reducible exact Q2.out _ D0.lq.below) | (with_reducible exact Q3.out _ D.lq.below) | (with_reducible exact Q3.out _ D0.lq.below) | (with_reducible exact Q4.out _ D.lq.below) | (with_reducible exact Q4.out _ D0.lq.below) | (with_reducible exact Q5.out _ D.lq.below) | (with_reducible exact Q5.out _ D0.lq.below) | (with_reducible exact Q6.out _ D.lq.below) | (with_reducible exact Q6.out _ D0.lq.below) | (with_reducible exact Q7.out _ D.lq.below) | (with_reducible exact Q7.out _ D0.lq.below) | (with_reducible exact Q8.out _ D.lq.below) | (with_reducible exact Q8.out _ D0.lq.below) | (with_reducible exact Q9.out _ D.lq.below) | (with_reducible exact Q9.out _ D0.lq.below) | (with_reducible exact Q10.out _ D.lq.below) | (with_reducible exact Q10.out _ D0.lq.below) | (with_reducible exact Q11.out _ D.lq.below) | (with_reducible exact Q11.out _ D0.lq.below) | (with_reducible refine c_alloc _ ?_) | (with_reducible refine c_drew ?_) | (with_reducible refine c_set ?_ (by assumption) ?_) | omega)))) (first | (go_at_call 179; (with_reducible refine (BS1.out _ _ _ _ ?_ ?_ ?_).mono ?_); (· (first | (with_reducible refine isD_n (D.getN ?_); (repeat (first | (with_reducible exact List.mem_cons_self) | apply List.mem_cons_of_mem))) | (with_reducible refine isD_n ((D.box false none none 0 0 0 0).getN ?_); (repeat (first | (with_reducible exact List.mem_cons_self) | apply List.mem_cons_of_mem))) | (with_reducible refine isD_n ((D0.box false none none 0 0 0 0).drew.getN ?_); (repeat (first | (with_reducible exact List.mem_cons_self) | apply List.mem_cons_of_mem))))); (· (first | (with_reducible refine isD_n (D.getN ?_); (repeat (first | (with_reducible exact List.mem_cons_self) | apply List.mem_cons_of_mem))) | (with_reducible refine isD_n ((D.box false none none 0 0 0 0).getN ?_); (repeat (first | (with_reducible exact List.mem_cons_self) | apply List.mem_cons_of_mem))) | (with_reducible refine isD_n ((D0.box false none none 0 0 0 0).drew.getN ?_); (repeat (first | (with_reducible exact List.mem_cons_self) | apply List.mem_cons_of_mem))))); (· (first | (with_reducible refine isD_n (D.getN ?_); (repeat (first | (with_reducible exact List.mem_cons_self) | apply List.mem_cons_of_mem))) | (with_reducible refine isD_n ((D.box false none none 0 0 0 0).getN ?_); (repeat (first | (with_reducible exact List.mem_cons_self) | apply List.mem_cons_of_mem))) | (with_reducible refine isD_n ((D0.box false none none 0 0 0 0).drew.getN ?_); (repeat (first | (with_reducible exact List.mem_cons_self) | apply List.mem_cons_of_mem))))); rintro e9 wh ⟨vh, rfl, id, be⟩; obtain ⟨A7, c7, rfl, _, in9⟩ := id.form; (first | (replace D := D.step be) | (replace D := (D.boxM hmd false none none 0 0 0 0).step be) | (replace D := (D.box false none none 0 0 0 0).step be)); have hz := be.size; (try simp at hz); replace D := D.n in9; clear id in9; (try (have x00 := D.lq.b0.c30; have x01 := D.lq.b0.c31; have x02 := D.lq.b0.c32; have y00 := D.lq.b0.fr 0; have y01 := D.lq.b0.fr 1; have y02 := D.lq.b0.fr 2)); (try obtain ⟨na, nb, nc, nd, nl⟩ := D.n0)) | (go_at_call 178; (with_reducible refine (QU1.out _ _ _ ?_ ?_).mono ?_); (· (first | (with_reducible refine isD_n (D.getN ?_); (repeat (first | (with_reducible exact List.mem_cons_self) | apply List.mem_cons_of_mem))) | (with_reducible refine isD_n ((D.box false none none 0 0 0 0).getN ?_); (repeat (first | (with_reducible exact List.mem_cons_self) | apply List.mem_cons_of_mem))) | (with_reducible refine isD_n ((D0.box false none none 0 0 0 0).drew.getN ?_); (repeat (first | (with_reducible exact List.mem_cons_self) | apply List.mem_cons_of_mem))))); (· (first | (with_reducible refine isD_n (D.getN ?_); (repeat (first | (with_reducible exact List.mem_cons_self) | apply List.mem_cons_of_mem))) | (with_reducible refine isD_n ((D.box false none none 0 0 0 0).getN ?_); (repeat (first | (with_reducible exact List.mem_cons_self) | apply List.mem_cons_of_mem))) | (with_reducible refine isD_n ((D0.box false none none 0 0 0 0).drew.getN ?_); (repeat (first | (with_reducible exact List.mem_cons_self) | apply List.mem_cons_of_mem))))); rintro e9 wh ⟨vh, rfl, iq, be⟩; obtain ⟨A8, c8, B8, k8, rfl, _, _, _⟩ := iq.form; (first | (replace D := D.step be) | (replace D := (D.boxM hmd false none none 0 0 0 0).step be) | (replace D := (D.box false none none 0 0 0 0).step be)); have hz := be.size; (try simp at hz); replace D := D.q iq; clear iq; (try (have x00 := D.lq.b0.c30; have x01 := D.lq.b0.c31; have x02 := D.lq.b0.c32; have y00 := D.lq.b0.fr 0; have y01 := D.lq.b0.fr 1; have y02 := D.lq.b0.fr 2)); (try obtain ⟨na, nb, nc, nd, nl⟩ := D.n0)))
    all_goals
      go_wp2_with fail
      go_meet
      first
      | ((with_reducible refine made1q_a D ?_) <;> (repeat (first | (with_reducible exact List.mem_cons_self) | apply List.mem_cons_of_mem)))
      | ((with_reducible refine made1q_b D ?_) <;> (repeat (first | (with_reducible exact List.mem_cons_self) | apply List.mem_cons_of_mem)))
  case rest =>
    obtain ⟨gq1, Aq1, cq1, Bq1, kq1, rfl, hg, bw, hb3, iq⟩ := hcut
    have hg4 := LL.out.b0.lt
    have hgq1 : gr < gq1 := by omega
    have hgs1 := hb3.lt
    have L := ((LL.out.step bw).q iq).b hb3
    clear D D0 hmd hz0 hK LL hb3 iq bw hb1 hb2 hc1 hc2 hg hg4 Q0 Q1 Q2 Q3 Q4 Q5 Q6 Q7 Q8 Q9 Q10 Q11
    generalize wc = wd1 at *
    (try go_wp2_with fail)
    replace L := L.swap
    have Q0 := Lib.hid (fun Z (hZ : Below wd1.heap.size wd1 Z) => (L.tl.tl.tl.b0.mono hZ).c60)
    have Q1 := Lib.hid (fun Z (hZ : Below wd1.heap.size wd1 Z) => (L.tl.tl.tl.b0.mono hZ).c61)
    have Q2 := Lib.hid (fun Z (hZ : Below wd1.heap.size wd1 Z) => (L.tl.tl.tl.b0.mono hZ).c62)
    have Q3 := Lib.hid (fun Z (hZ : Below wd1.heap.size wd1 Z) => (L.tl.tl.tl.b0.mono hZ).c63)
    have Q4 := Lib.hid (fun Z (hZ : Below wd1.heap.size wd1 Z) => (L.tl.tl.tl.b0.mono hZ).c64)
    have Q5 := Lib.hid (fun Z (hZ : Below wd1.heap.size wd1 Z) => (L.tl.tl.tl.b0.mono hZ).c65)
    have Q6 := Lib.hid (fun Z (hZ : Below wd1.heap.size wd1 Z) => (L.tl.tl.b0.mono hZ).c60)
    have Q7 := Lib.hid (fun Z (hZ : Below wd1.heap.size wd1 Z) => (L.tl.tl.b0.mono hZ).c61)
    have Q8 := Lib.hid (fun Z (hZ : Below wd1.heap.size wd1 Z) => (L.tl.tl.b0.mono hZ).c62)
    have Q9 := Lib.hid (fun Z (hZ : Below wd1.heap.size wd1 Z) => (L.tl.tl.b0.mono hZ).c63)
    have Q10 := Lib.hid (fun Z (hZ : Below wd1.heap.size wd1 Z) => (L.tl.tl.b0.mono hZ).c64)
    have Q11 := Lib.hid (fun Z (hZ : Below wd1.heap.size wd1 Z) => (L.tl.tl.b0.mono hZ).c65)
    have hb1 := L.tl.tl.tl.b0.lt
    have hb2 := L.tl.tl.b0.lt
    have D0 : Dq wd1 wd1 [(.slice A (zl m) c, m.natAbs), (.slice B (zl n) d, n.natAbs), (.slice A2 (zl m2) k2, m2.natAbs), (.slice B2 (zl n2) d2, n2.natAbs)] [] [] [] := ⟨((((Lq.mk0 wd1).n (L.getN (v := .slice B2 (zl n2) d2) (x := (n2).natAbs) (by simp))).n (L.getN (v := .slice A2 (zl m2) k2) (x := (m2).natAbs) (by simp))).n (L.getN (v := .slice B (zl n) d) (x := (n).natAbs) (by simp))).n (L.getN (v := .slice A (zl m) c) (x := (m).natAbs) (by simp)), List.nodup_nil, fun p hp => by cases hp⟩
    have D := D0.drew
    have LL := Lib.hid L
    clear L
    obtain ⟨K, hK⟩ : ∃ K, wd1.heap.size = K := ⟨_, rfl⟩
    have hz0 : K ≤ wd1.heap.size := by omega
    have hc1 : w.heap.size < K := by omega
    have hc2 : w.heap.size + 1 < K := by omega
    have hmd : wd1.drew.heap.size = K := hK
    go_cut [11] from 50 to 60 (fun s5 wx => Made1Q wd1 qa2 qd2 s5 wx)
    case first =>
      go_region_held3 (fun w' => w'.cell? ⟨w.heap.size, 0, none⟩ = some (.bool (ng m)) ∧ w'.cell? ⟨w.heap.size, 1, none⟩ = some (.slice A (zl m) c) ∧ w'.cell? ⟨w.heap.size, 2, none⟩ = some (.int .i64 e) ∧ w'.cell? ⟨w.heap.size, 3, none⟩ = some (.bool (ng n)) ∧ w'.cell? ⟨w.heap.size, 4, none⟩ = some (.slice B (zl n) d) ∧ w'.cell? ⟨w.heap.size, 5, none⟩ = some (.int .i64 f) ∧ w'.cell? ⟨w.heap.size + 1, 0, none⟩ = some (.bool (ng m2)) ∧ w'.cell? ⟨w.heap.size + 1, 1, none⟩ = some (.slice A2 (zl m2) k2) ∧ w'.cell? ⟨w.heap.size + 1, 2, none⟩ = some (.int .i64 e2) ∧ w'.cell? ⟨w.heap.size + 1, 3, none⟩ = some (.bool (ng n2)) ∧ w'.cell? ⟨w.heap.size + 1, 4, none⟩ = some (.slice B2 (zl n2) d2) ∧ w'.cell? ⟨w.heap.size + 1, 5, none⟩ = some (.int .i64 f2)) (((try dsimp only); refine ⟨?_, ?_, ?_, ?_, ?_, ?_, ?_, ?_, ?_, ?_, ?_, ?_⟩ <;> (repeat (first | (with_reducible exact Q0.out _ D.lq.below) | (with_reducible exact Q0.out _ D0.lq.below) | (with_reducible exact Q1.out _ D.lq.below) | (with_reducible exact Q1.out _ D0.lq.below) | (with_reducible exact Q2.out _ D.lq.below) | (with_reducible exact Q2.out _ D0.lq.below) | (with_reducible exact Q3.out _ D.lq.below) | (with_reducible exact Q3.out _ D0.lq.below) | (with_reducible exact Q4.out _ D.lq.below) | (with_reducible exact Q4.out _ D0.lq.below) | (with_reducible exact Q5.out _ D.lq.below) | (with_reducible exact Q5.out _ D0.lq.below) | (with_reducible exact Q6.out _ D.lq.below) | (with_reducible exact Q6.out _ D0.lq.below) | (with_reducible exact Q7.out _ D.lq.below) | (with_reducible exact Q7.out _ D0.lq.below) | (with_reducible exact Q8.out _ D.lq.below) | (with_reducible exact Q8.out _ D0.lq.below) | (with_reducible exact Q9.out _ D.lq.below) | (with_reducible exact Q9.out _ D0.lq.below) | (with_reducible exact Q10.out _ D.lq.below) | (with_reducible exact Q10.out _ D0.lq.below) | (with_reducible exact Q11.out _ D.lq.below) | (with_reducible exact Q11.out _ D0.lq.below) | (with_reducible refine c_alloc _ ?_) | (with_reducible refine c_drew ?_) | (with_reducible refine c_set ?_ (by assumption) ?_) | omega)))) (first | (go_at_call 179; (with_reducible refine (BS2.out _ _ _ _ ?_ ?_ ?_).mono ?_); (· (first | (with_reducible refine isD_n (D.getN ?_); (repeat (first | (with_reducible exact List.mem_cons_self) | apply List.mem_cons_of_mem))) | (with_reducible refine isD_n ((D.box false none none 0 0 0 0).getN ?_); (repeat (first | (with_reducible exact List.mem_cons_self) | apply List.mem_cons_of_mem))) | (with_reducible refine isD_n ((D0.box false none none 0 0 0 0).drew.getN ?_); (repeat (first | (with_reducible exact List.mem_cons_self) | apply List.mem_cons_of_mem))))); (· (first | (with_reducible refine isD_n (D.getN ?_); (repeat (first | (with_reducible exact List.mem_cons_self) | apply List.mem_cons_of_mem))) | (with_reducible refine isD_n ((D.box false none none 0 0 0 0).getN ?_); (repeat (first | (with_reducible exact List.mem_cons_self) | apply List.mem_cons_of_mem))) | (with_reducible refine isD_n ((D0.box false none none 0 0 0 0).drew.getN ?_); (repeat (first | (with_reducible exact List.mem_cons_self) | apply List.mem_cons_of_mem))))); (· (first | (with_reducible refine isD_n (D.getN ?_); (repeat (first | (with_reducible exact List.mem_cons_self) | apply List.mem_cons_of_mem))) | (with_reducible refine isD_n ((D.box false none none 0 0 0 0).getN ?_); (repeat (first | (with_reducible exact List.mem_cons_self) | apply List.mem_cons_of_mem))) | (with_reducible refine isD_n ((D0.box false none none 0 0 0 0).drew.getN ?_); (repeat (first | (with_reducible exact List.mem_cons_self) | apply List.mem_cons_of_mem))))); rintro e9 wh ⟨vh, rfl, id, be⟩; obtain ⟨A7, c7, rfl, _, in9⟩ := id.form; (first | (replace D := D.step be) | (replace D := (D.boxM hmd false none none 0 0 0 0).step be) | (replace D := (D.box false none none 0 0 0 0).step be)); have hz := be.size; (try simp at hz); replace D := D.n in9; clear id in9; (try (have x00 := D.lq.b0.c30; have x01 := D.lq.b0.c31; have x02 := D.lq.b0.c32; have y00 := D.lq.b0.fr 0; have y01 := D.lq.b0.fr 1; have y02 := D.lq.b0.fr 2)); (try obtain ⟨na, nb, nc, nd, nl⟩ := D.n0)) | (go_at_call 178; (with_reducible refine (QU2.out _ _ _ ?_ ?_).mono ?_); (· (first | (with_reducible refine isD_n (D.getN ?_); (repeat (first | (with_reducible exact List.mem_cons_self) | apply List.mem_cons_of_mem))) | (with_reducible refine isD_n ((D.box false none none 0 0 0 0).getN ?_); (repeat (first | (with_reducible exact List.mem_cons_self) | apply List.mem_cons_of_mem))) | (with_reducible refine isD_n ((D0.box false none none 0 0 0 0).drew.getN ?_); (repeat (first | (with_reducible exact List.mem_cons_self) | apply List.mem_cons_of_mem))))); (· (first | (with_reducible refine isD_n (D.getN ?_); (repeat (first | (with_reducible exact List.mem_cons_self) | apply List.mem_cons_of_mem))) | (with_reducible refine isD_n ((D.box false none none 0 0 0 0).getN ?_); (repeat (first | (with_reducible exact List.mem_cons_self) | apply List.mem_cons_of_mem))) | (with_reducible refine isD_n ((D0.box false none none 0 0 0 0).drew.getN ?_); (repeat (first | (with_reducible exact List.mem_cons_self) | apply List.mem_cons_of_mem))))); rintro e9 wh ⟨vh, rfl, iq, be⟩; obtain ⟨A8, c8, B8, k8, rfl, _, _, _⟩ := iq.form; (first | (replace D := D.step be) | (replace D := (D.boxM hmd false none none 0 0 0 0).step be) | (replace D := (D.box false none none 0 0 0 0).step be)); have hz := be.size; (try simp at hz); replace D := D.q iq; clear iq; (try (have x00 := D.lq.b0.c30; have x01 := D.lq.b0.c31; have x02 := D.lq.b0.c32; have y00 := D.lq.b0.fr 0; have y01 := D.lq.b0.fr 1; have y02 := D.lq.b0.fr 2)); (try obtain ⟨na, nb, nc, nd, nl⟩ := D.n0)))
      all_goals
        go_wp2_with fail
        go_meet
        first
        | ((with_reducible refine made1q_a D ?_) <;> (repeat (first | (with_reducible exact List.mem_cons_self) | apply List.mem_cons_of_mem)))
        | ((with_reducible refine made1q_b D ?_) <;> (repeat (first | (with_reducible exact List.mem_cons_self) | apply List.mem_cons_of_mem)))
    case rest =>
      obtain ⟨gq2, Aq2, cq2, Bq2, kq2, rfl, hg, bw, hb3, iq⟩ := hcut
      have hg4 := LL.out.b0.lt
      have hgq2 : gr < gq2 := by omega
      have hgs2 := hb3.lt
      have L := ((LL.out.step bw).q iq).b hb3
      clear D D0 hmd hz0 hK LL hb3 iq bw hb1 hb2 hc1 hc2 hg hg4 Q0 Q1 Q2 Q3 Q4 Q5 Q6 Q7 Q8 Q9 Q10 Q11
      generalize wc = wd2 at *
      have c00 := L.b0.c30
      have c01 := L.b0.c31
      have c02 := L.b0.c32
      have c20 := L.tl.tl.b0.c30
      have c21 := L.tl.tl.b0.c31
      have c22 := L.tl.tl.b0.c32
      (try go_wp2_with fail)
      refine (EN.out _ _ _ (L.getQ (v := .agg #[.bool (ng qa1), .slice Aq1 (zl qa1) cq1, .slice Bq1 (len qd1) kq1]) (a := qa1) (d := qd1) (by simp)) (L.getQ (v := .agg #[.bool (ng qa2), .slice Aq2 (zl qa2) cq2, .slice Bq2 (len qd2) kq2]) (a := qa2) (d := qd2) (by simp)) L.below).mono ?_
      intro e9 w19 hen
      obtain ⟨v19, er, m9, e9', n9, f9, rfl, ii, be, hback⟩ := hen.form
      obtain ⟨A5, c5, B5, d5, rfl, ia, ib⟩ := ii.form
      replace L := (((L.step be).n ib).n ia).swap
      clear be ii ia ib hen
      have HBK := Lib.hid hback
      clear hback
      clear c00 c01 c02 c20 c21 c22
      have c00 := L.b0.c60
      have f00 := L.b0.fr 0
      have c01 := L.b0.c61
      have f01 := L.b0.fr 1
      have c02 := L.b0.c62
      have f02 := L.b0.fr 2
      have c03 := L.b0.c63
      have f03 := L.b0.fr 3
      have c04 := L.b0.c64
      have f04 := L.b0.fr 4
      have c05 := L.b0.c65
      have f05 := L.b0.fr 5
      go_wp2_with fail
      have LP := L.putI (by omega) (by first | (simp; done) | (simp; omega)) (ng m9) A5 (zl m9) c5 e9' (ng n9) B5 (zl n9) d5 f9
      have k0' := LP.b0.c60
      have k1' := LP.b0.c61
      have k2' := LP.b0.c62
      have k3' := LP.b0.c63
      have k4' := LP.b0.c64
      have k5' := LP.b0.c65
      unfold put6 at k0' k1' k2' k3' k4' k5'
      exact bodyPost_ret (v := .tuple #[.agg #[.bool (ng m9), .slice A5 (zl m9) c5, .int .i64 e9', .bool (ng n9), .slice B5 (zl n9) d5, .int .i64 f9], .int .i64 er]) (by simp [results, Tryz.results145, go_sem, k0', k1', k2', k3', k4', k5']) rfl (HBK.out _ _ _ (isI_n (LP.getN (by simp)) (LP.getN (by simp))) LP.below)

set_option maxHeartbeats 4000000 in
theorem cfrac_any (num den : Int) (w : World) (h1 : -4611686018427387904 ≤ num) (h2 : num ≤ 4611686018427387904) (hd : 0 < den) (hd2 : den ≤ 4611686018427387904) :
    Calls Tryz.prog 167 #[.int .i64 num, .int .i64 den] w (RetQ w (Rat.divInt num den)) := by
  have z1 := len_le2 (x := num.natAbs) (by omega)
  have z2 := len_le2 (x := den.natAbs) (by omega)
  have z3 := len_le2 (x := 1) (by omega)
  have g1 := fun W => pof_any num W (by omega) (by omega)
  have g2 := fun W => pof_any den W (by omega) (by omega)
  have g3 := fun v u W h k => pdiv_any num 1 den 1 v u W h k (show zl num ≤ 1000000 from Nat.le_trans z1 (by omega)) (by omega) (show zl den ≤ 1000000 from Nat.le_trans z2 (by omega)) (by omega) (by omega) (by omega)
  rw [show Rat.divInt (num * ((1 : Nat) : Int)) (((1 : Nat) : Int) * den) = Rat.divInt num den by rw [Int.natCast_one, Int.mul_one, Int.one_mul]] at g3
  unfold RetQ at g1 g2 ⊢
  simp only [Rat.num_intCast, Rat.den_intCast] at g1 g2
  generalize (Rat.divInt num den).num = a at *
  generalize (Rat.divInt num den).den = k at *
  have G1 := Lib.hid g1
  have G2 := Lib.hid g2
  have G3 := Lib.hid g3
  clear g1 g2 g3 z1 z2 z3
  go_enter Tryz.func167, Tryz.ntmps167
  have L := ((Lq.mk0 w).varQ (w.heap.size) (by simp) false none none 0 0 0 0)
  have c00 := L.b0.c30
  have f00 := L.b0.fr 0
  have c01 := L.b0.c31
  have f01 := L.b0.fr 1
  have c02 := L.b0.c32
  have f02 := L.b0.fr 2
  (try go_wp2_with fail)
  refine (G1.out _).mono ?_
  rintro e w1 ⟨vv, rfl, iq, be⟩
  clear c00 f00 c01 f01 c02 f02
  obtain ⟨A1, c1, B1, d1, rfl, _, ia, ib⟩ := iq.form
  replace L := ((L.step be).n ib).n ia
  clear be iq ia ib
  have c00 := L.b0.c30
  have f00 := L.b0.fr 0
  have c01 := L.b0.c31
  have f01 := L.b0.fr 1
  have c02 := L.b0.c32
  have f02 := L.b0.fr 2
  (try go_wp2_with fail)
  refine (G2.out _).mono ?_
  rintro e w2 ⟨vv, rfl, iq, be⟩
  clear c00 f00 c01 f01 c02 f02
  obtain ⟨A2, c2, B2, d2, rfl, _, ia, ib⟩ := iq.form
  replace L := ((L.step be).n ib).n ia
  clear be iq ia ib
  have c00 := L.b0.c30
  have f00 := L.b0.fr 0
  have c01 := L.b0.c31
  have f01 := L.b0.fr 1
  have c02 := L.b0.c32
  have f02 := L.b0.fr 2
  (try go_wp2_with fail)
  refine (G3.out _ _ _ ⟨.slice A1 (zl num) c1, .slice B1 (len 1) d1, rfl, L.getN (by simp), L.getN (by simp)⟩ ⟨.slice A2 (zl den) c2, .slice B2 (len 1) d2, rfl, L.getN (by simp), L.getN (by simp)⟩).mono ?_
  rintro e w3 ⟨vv, rfl, iq, be⟩
  clear c00 f00 c01 f01 c02 f02
  obtain ⟨A3, c3, B3, d3, rfl, _, ia, ib⟩ := iq.form
  replace L := ((L.step be).n ib).n ia
  clear be iq ia ib
  have hl9 := L.b0.lt
  have c00 := L.b0.c30
  have f00 := L.b0.fr 0
  have c01 := L.b0.c31
  have f01 := L.b0.fr 1
  have c02 := L.b0.c32
  have f02 := L.b0.fr 2
  have LN := L.varQ w3.heap.size rfl (ng a) A3 B3 (zl a) c3 (len k) d3
  have n0 := LN.b0.c30
  have n1 := LN.b0.c31
  have n2 := LN.b0.c32
  go_wp2_with fail
  clear c00 f00 c01 f01 c02 f02
  have LP0 := L.putQ (by omega) (by simp) (ng a) A3 B3 (zl a) c3 (len k) d3
  have LP := LP0.varQ _ rfl (ng a) A3 B3 (zl a) c3 (len k) d3
  have k0 := LP.tl.b0.c30
  have k1 := LP.tl.b0.c31
  have k2 := LP.tl.b0.c32
  unfold put3 at k0 k1 k2
  exact bodyPost_ret (v := .agg #[.bool (ng a), .slice A3 (zl a) c3, .slice B3 (len k) d3]) (by simp [results, Tryz.results167, go_sem, k0, k1, k2]) rfl ⟨_, rfl, ⟨_, _, rfl, LP.getN (by simp), LP.getN (by simp)⟩, LP.below⟩
set_option maxHeartbeats 4000000 in
theorem ctang_any (n sg : Int) (j : Nat) (w : World) (hn : 2 ≤ n) (hn2 : n ≤ 10000) (hs : sg = 1 ∨ sg = -1) (hj : j ≤ 1000) :
    Calls Tryz.prog 123 #[.int .i64 n, .int .i64 (j : Int), .int .i64 sg] w (RetQ w (Rat.divInt (tnP n sg j).1 (tnP n sg j).2)) := by
  have hnn : n * n ≤ 10000 * 10000 := Int.mul_le_mul hn2 hn2 (by omega) (by omega)
  have hnn2 : 2 * 2 ≤ n * n := Int.mul_le_mul hn hn (by omega) (by omega)
  obtain ⟨q, hq⟩ : ∃ q, n * n = q := ⟨_, rfl⟩
  obtain ⟨b, hb⟩ : ∃ b, q + sg = b := ⟨_, rfl⟩
  have w1 : IntKind.i64.wrap (n * n) = q := by rw [IntKind.wrap_i64]; omega
  have w2 : IntKind.i64.wrap (q + sg) = b := by rw [IntKind.wrap_i64]; omega
  have w3 : IntKind.i64.wrap (sg * 2) = sg * 2 := by rw [IntKind.wrap_i64]; omega
  obtain ⟨u, hu⟩ : ∃ u, sg * 2 * (j : Int) = u := ⟨_, rfl⟩
  have hub : -2000 ≤ u ∧ u ≤ 2000 := by rcases hs with rfl | rfl <;> omega
  have w4 : IntKind.i64.wrap (sg * 2 * (j : Int)) = u := by rw [IntKind.wrap_i64]; omega
  have w5 : IntKind.i64.wrap (2 * (j : Int)) = 2 * (j : Int) := by rw [IntKind.wrap_i64]; omega
  obtain ⟨m, hm⟩ : ∃ m : Int, 2 * (j : Int) + 1 = m := ⟨_, rfl⟩
  have w6 : IntKind.i64.wrap (2 * (j : Int) + 1) = m := by rw [IntKind.wrap_i64]; omega
  rw [hq] at hnn hnn2
  have hmb : m * b ≤ 2001 * 100000001 := Int.mul_le_mul (by omega) (by omega) (by omega) (by omega)
  have hmb2 : 1 * 3 ≤ m * b := Int.mul_le_mul (by omega) (by omega) (by omega) (by omega)
  obtain ⟨y, hy⟩ : ∃ y, m * b = y := ⟨_, rfl⟩
  rw [hy] at hmb hmb2
  have w7 : IntKind.i64.wrap (m * b) = y := by rw [IntKind.wrap_i64]; omega
  unfold tnP
  by_cases hj0 : j = 0
  · subst hj0
    rw [if_pos rfl]
    simp only
    rw [hq, hb]
    have g1 := fun W => cfrac_any n b W (by omega) (by omega) (by omega) (by omega)
    unfold RetQ at g1 ⊢
    generalize (Rat.divInt n b).num = a at *
    generalize (Rat.divInt n b).den = k at *
    have G1 := Lib.hid g1
    clear g1 hy hm hu hb hq hnn hnn2 hmb hmb2 w3 w4 w5 w6 w7 hub
    go_enter Tryz.func123, Tryz.ntmps123
    have L := ((Lq.mk0 w).varQ (w.heap.size) (by simp) false none none 0 0 0 0)
    have c00 := L.b0.c30
    have f00 := L.b0.fr 0
    have c01 := L.b0.c31
    have f01 := L.b0.fr 1
    have c02 := L.b0.c32
    have f02 := L.b0.fr 2
    (try go_wp2_with fail)
    refine (G1.out _).mono ?_
    rintro e w1 ⟨vv, rfl, iq, be⟩
    clear c00 f00 c01 f01 c02 f02
    obtain ⟨A9, c9, B9, d9, rfl, _, ia, ib⟩ := iq.form
    replace L := ((L.step be).n ib).n ia
    clear be iq ia ib
    have c00 := L.b0.c30
    have f00 := L.b0.fr 0
    have c01 := L.b0.c31
    have f01 := L.b0.fr 1
    have c02 := L.b0.c32
    have f02 := L.b0.fr 2
    (try go_wp2_with fail)
    have LP := L.putQ (by omega) (by first | (simp; done) | (simp; omega)) (ng (a)) A9 B9 (zl (a)) c9 (len (k)) d9
    have k0 := LP.b0.c30
    have k1 := LP.b0.c31
    have k2 := LP.b0.c32
    unfold put3 at k0 k1 k2
    exact bodyPost_ret (v := .agg #[.bool (ng (a)), .slice A9 (zl (a)) c9, .slice B9 (len (k)) d9]) (by simp [results, Tryz.results123, go_sem, k0, k1, k2]) rfl ⟨_, rfl, ⟨_, _, rfl, LP.getN (by simp), LP.getN (by simp)⟩, LP.below⟩
  · rw [if_neg hj0]
    simp only
    rw [hq, hb, hu, hm, hy]
    have q0 : ((j : Int) == 0) = false := by rw [beq_eq_false_iff_ne]; omega
    have g1 := fun W => cfrac_any u y W (by omega) (by omega) (by omega) (by omega)
    unfold RetQ at g1 ⊢
    generalize (Rat.divInt u y).num = a at *
    generalize (Rat.divInt u y).den = k at *
    have G1 := Lib.hid g1
    clear g1 hy hm hu hb hq hnn hnn2 hmb hmb2 hub
    go_enter Tryz.func123, Tryz.ntmps123
    have L := ((Lq.mk0 w).varQ (w.heap.size) (by simp) false none none 0 0 0 0)
    have c00 := L.b0.c30
    have f00 := L.b0.fr 0
    have c01 := L.b0.c31
    have f01 := L.b0.fr 1
    have c02 := L.b0.c32
    have f02 := L.b0.fr 2
    (try go_wp2_with fail)
    refine (G1.out _).mono ?_
    rintro e w1 ⟨vv, rfl, iq, be⟩
    clear c00 f00 c01 f01 c02 f02
    obtain ⟨A9, c9, B9, d9, rfl, _, ia, ib⟩ := iq.form
    replace L := ((L.step be).n ib).n ia
    clear be iq ia ib
    have c00 := L.b0.c30
    have f00 := L.b0.fr 0
    have c01 := L.b0.c31
    have f01 := L.b0.fr 1
    have c02 := L.b0.c32
    have f02 := L.b0.fr 2
    (try go_wp2_with fail)
    have LP := L.putQ (by omega) (by first | (simp; done) | (simp; omega)) (ng (a)) A9 B9 (zl (a)) c9 (len (k)) d9
    have k0 := LP.b0.c30
    have k1 := LP.b0.c31
    have k2 := LP.b0.c32
    unfold put3 at k0 k1 k2
    exact bodyPost_ret (v := .agg #[.bool (ng (a)), .slice A9 (zl (a)) c9, .slice B9 (len (k)) d9]) (by simp [results, Tryz.results123, go_sem, k0, k1, k2]) rfl ⟨_, rfl, ⟨_, _, rfl, LP.getN (by simp), LP.getN (by simp)⟩, LP.below⟩
set_option maxHeartbeats 4000000 in
theorem carea_any (n : Int) (j : Nat) (w : World) (hn : 2 ≤ n) (hn2 : n ≤ 10000) (hj : j ≤ 1000) :
    Calls Tryz.prog 69 #[.int .i64 n, .int .i64 (j : Int)] w (RetQ w (Rat.divInt (tnP n (-1) j).1 (tnP n (-1) j).2)) := by
  have g1 := fun W => ctang_any n (-1) j W hn hn2 (by omega) hj
  unfold RetQ at g1 ⊢
  generalize (Rat.divInt (tnP n (-1) j).1 (tnP n (-1) j).2).num = a at *
  generalize (Rat.divInt (tnP n (-1) j).1 (tnP n (-1) j).2).den = k at *
  have G1 := Lib.hid g1
  clear g1
  go_enter Tryz.func69, Tryz.ntmps69
  have L := ((Lq.mk0 w).varQ (w.heap.size) (by simp) false none none 0 0 0 0)
  have c00 := L.b0.c30
  have f00 := L.b0.fr 0
  have c01 := L.b0.c31
  have f01 := L.b0.fr 1
  have c02 := L.b0.c32
  have f02 := L.b0.fr 2
  (try go_wp2_with fail)
  refine (G1.out _).mono ?_
  rintro e w1 ⟨vv, rfl, iq, be⟩
  clear c00 f00 c01 f01 c02 f02
  obtain ⟨A9, c9, B9, d9, rfl, _, ia, ib⟩ := iq.form
  replace L := ((L.step be).n ib).n ia
  clear be iq ia ib
  have c00 := L.b0.c30
  have f00 := L.b0.fr 0
  have c01 := L.b0.c31
  have f01 := L.b0.fr 1
  have c02 := L.b0.c32
  have f02 := L.b0.fr 2
  (try go_wp2_with fail)
  have LP := L.putQ (by omega) (by first | (simp; done) | (simp; omega)) (ng (a)) A9 B9 (zl (a)) c9 (len (k)) d9
  have k0 := LP.b0.c30
  have k1 := LP.b0.c31
  have k2 := LP.b0.c32
  unfold put3 at k0 k1 k2
  exact bodyPost_ret (v := .agg #[.bool (ng (a)), .slice A9 (zl (a)) c9, .slice B9 (len (k)) d9]) (by simp [results, Tryz.results69, go_sem, k0, k1, k2]) rfl ⟨_, rfl, ⟨_, _, rfl, LP.getN (by simp), LP.getN (by simp)⟩, LP.below⟩
def okW (p : Int) : Bool := decide (0 ≤ p) && decide (p ≤ 4224)
set_option maxHeartbeats 1000000 in
theorem cperm_any (p : Int) (w : World) :
    Calls Tryz.prog 121 #[.int .i64 p] w (fun e w' => e = .returned (.bool (okW p)) ∧ w = w') := by
  unfold okW
  by_cases q1 : 0 ≤ p
  · have b1 : decide (0 ≤ p) = true := decide_eq_true q1
    rw [b1, Bool.true_and]
    go_enter Tryz.func121, Tryz.ntmps121
    go_wp2_with fail
    go_ret
    exact ⟨rfl, rfl⟩
  · have b1 : decide (0 ≤ p) = false := decide_eq_false q1
    rw [b1, Bool.false_and]
    go_enter Tryz.func121, Tryz.ntmps121
    go_wp2_with fail
    go_ret
    exact ⟨rfl, rfl⟩

def okL (p : Int) : Bool := decide (0 ≤ p) && decide (p ≤ 4096)
set_option maxHeartbeats 1000000 in
theorem lperm_any (p : Int) (w : World) :
    Calls Tryz.prog 37 #[.int .i64 p] w (fun e w' => e = .returned (.bool (okL p)) ∧ w = w') := by
  unfold okL
  by_cases q1 : 0 ≤ p
  · have b1 : decide (0 ≤ p) = true := decide_eq_true q1
    rw [b1, Bool.true_and]
    go_enter Tryz.func37, Tryz.ntmps37
    go_wp2_with fail
    go_ret
    exact ⟨rfl, rfl⟩
  · have b1 : decide (0 ≤ p) = false := decide_eq_false q1
    rw [b1, Bool.false_and]
    go_enter Tryz.func37, Tryz.ntmps37
    go_wp2_with fail
    go_ret
    exact ⟨rfl, rfl⟩
set_option maxHeartbeats 8000000 in
theorem lprod_any (M E N G F : Int) (p : Nat) (vx vy : Value) (w : World) (hx : IsD w vx M E) (hy : IsD w vy N G) (lm : zl M ≤ 150) (ln : zl N ≤ 150) (he : -4500 ≤ E ∧ E ≤ 4500) (hg : -4500 ≤ G ∧ G ≤ 4500) (hF : cutQ (dq M E * dq N G) (p : Int) = F) (hb : AbP F 10000) (hp : p ≤ 8192) (hT : Tab w) :
    Calls Tryz.prog 93 #[vx, vy, .int .i64 (p : Int)] w (RetD8 w (mkM F (-(p : Int))) (mkE F (-(p : Int)))) := by
  obtain ⟨A, c, rfl, _, hn⟩ := hx.form
  obtain ⟨B, d, rfl, _, hn2⟩ := hy.form
  have L0 := ((Lq.mk0 w).n hn2).n hn
  have hz := zl_mul M N
  have hr : mkR (M * N) (E + G) = 0 := mk_fits9 (by omega) (by omega) (by omega)
  have z1 := zl_mk (M * N) (E + G)
  have z2 := mkE_at hr (k := 300) (by omega)
  have hd := dq_mk hr
  rw [dq_mul] at hd
  obtain ⟨M4, hM4⟩ : ∃ z, mkM (M * N) (E + G) = z := ⟨_, rfl⟩
  obtain ⟨E4, hE4⟩ : ∃ z, mkE (M * N) (E + G) = z := ⟨_, rfl⟩
  rw [hM4] at z1 hd
  rw [hE4] at z2 hd
  have g1 := fun x y W h j (hW : Below w.heap.size w W) => dmul_any M E N G x y W h j (by omega) (by omega) (by omega) (by omega) (hT.mono hW)
  rw [hM4, hE4, hr] at g1
  obtain ⟨y1, y2, y3⟩ := g_yes (permN (p := p) (by omega)) F
  obtain ⟨n1, n2, n3, _, _⟩ := nx hb (by omega) (show -20000 ≤ -(p : Int) ∧ -(p : Int) ≤ 20000 by omega)
  have g2 := fun x W h (hW : Below w.heap.size w W) => gfloor_any M4 E4 (p : Int) x W h (by omega) (by omega) (by omega) (by omega) (hT.mono hW)
  rw [hd, hF, y1, y2, y3, n1] at g2
  clear y1 y2 y3 n1 n2 n3 hz hr z1 z2 hd hM4 hE4 lm ln he hg hb hp hT hF hx hy
  generalize mkM F (-(p : Int)) = Z at *
  generalize mkE F (-(p : Int)) = Q at *
  have G1 := Lib.hid g1
  have G2 := Lib.hid g2
  clear g1 g2
  go_enter Tryz.func93, Tryz.ntmps93
  have L := (((L0.varD (w.heap.size) (by simp) (ng M) A (zl M) c E).varD (w.heap.size + 1) (by simp) (ng N) B (zl N) d G).varD (w.heap.size + 2) (by simp) false none 0 0 0)
  have c10 := L.tl.b0.c30
  have c11 := L.tl.b0.c31
  have c12 := L.tl.b0.c32
  have c20 := L.tl.tl.b0.c30
  have c21 := L.tl.tl.b0.c31
  have c22 := L.tl.tl.b0.c32
  (try go_wp2_with fail)
  refine (G1.out _ _ _ (isD_n (m := M) (e := E) (s := .slice A (zl M) c) (L.getN (by simp))) (isD_n (m := N) (e := G) (s := .slice B (zl N) d) (L.getN (by simp))) L.below).mono ?_
  rintro e w1 ⟨v9, rfl, iz, be⟩
  clear c10 c11 c12 c20 c21 c22
  obtain ⟨A4, c4, rfl, _, in9⟩ := iz.form
  replace L := (L.step be).n in9
  clear be iz in9
  have hl9 := L.b0.lt
  replace L := L.varD w1.heap.size rfl (ng M4) A4 (zl M4) c4 E4
  have c00 := L.b0.c30
  have c01 := L.b0.c31
  have c02 := L.b0.c32
  go_wp2_with fail
  clear c00 c01 c02
  obtain ⟨g1, hg1⟩ : ∃ g9, w1.heap.size = g9 := ⟨_, rfl⟩
  rw [hg1] at L hl9 ⊢
  clear hg1
  have hl_g1 := hl9
  clear hl9
  refine (G2.out _ _ (isD_n (m := M4) (e := E4) (s := .slice A4 (zl M4) c4) (L.getN (by simp))) L.below).mono ?_
  rintro e w2 ⟨v9, rfl, iz, be⟩
  obtain ⟨A5, c5, rfl, _, in9⟩ := iz.form
  replace L := (L.step be).n in9
  clear be iz in9
  have hl9 := L.b0.lt
  have L9 := L.subx (ns' := [(.slice A5 (zl Z) c5, Z.natAbs)]) (bs' := [(w.heap.size + 1 + 1, 26, #[.bool false, .slice none 0 0, .int .i64 0])]) (by simp) (by simp)
  clear L
  have L := L9
  clear L9
  have n9 : w.heap.size + 1 + 1 ≠ w2.heap.size := by omega
  have c00 := L.b0.c30
  have f00 := L.b0.fr 0
  have c01 := L.b0.c31
  have f01 := L.b0.fr 1
  have c02 := L.b0.c32
  have f02 := L.b0.fr 2
  have LN := L.varD w2.heap.size rfl (ng Z) A5 (zl Z) c5 Q
  have v0 := LN.b0.c30
  have v1 := LN.b0.c31
  have v2 := LN.b0.c32
  have v3 := LN.tl.b0.c30
  have v4 := LN.tl.b0.c31
  have v5 := LN.tl.b0.c32
  have v6 := LN.tl.b0.fr 0
  have v7 := LN.tl.b0.fr 1
  have v8 := LN.tl.b0.fr 2
  go_wp2_with fail
  clear c00 f00 c01 f01 c02 f02
  clear v0 v1 v2 v3 v4 v5 v6 v7 v8
  clear L
  have L := LN.swap
  clear LN
  have LP := L.putD (by omega) (by first | (simp; done) | (simp; omega)) (ng Z) A5 (zl Z) c5 (Q)
  have k0 := LP.b0.c30
  have k1 := LP.b0.c31
  have k2 := LP.b0.c32
  unfold put3 at k0 k1 k2
  exact bodyPost_ret (v := .agg #[.bool (ng Z), .slice A5 (zl Z) c5, .int .i64 (Q)]) (by simp [results, Tryz.results93, go_sem, k0, k1, k2]) rfl ⟨_, rfl, isD_n (LP.getN (by simp)), LP.below⟩
/-- The quotient by a number that is not less than 1. -/
theorem rec_bd {x : Rat} {p b k : Nat} (h1 : 1 ≤ x) (hp : k + b = p) : cutQ (dq 1 (b : Int) / x) (k : Int) = cutQ (1 / x) (p : Int) ∧ AbP (cutQ (1 / x) (p : Int)) p ∧ AbP (-(cutQ (-(dq 1 (b : Int) / x)) (k : Int))) p ∧ dq (cutQ (1 / x) (p : Int)) (-(p : Int)) * x ≤ 1 ∧ 1 ≤ (dq (cutQ (1 / x) (p : Int)) (-(p : Int)) + dq 1 (-(p : Int))) * x ∧ 0 ≤ cutQ (1 / x) (p : Int) := by
  have hx : (0 : Rat) < x := by grind
  have e1 : cutQ (dq 1 (b : Int) / x) (k : Int) = cutQ (1 / x) (p : Int) := by
    unfold cutQ
    congr 1
    have := dq_mul 1 (b : Int) 1 (k : Int)
    rw [Int.one_mul, show (b : Int) + (k : Int) = (p : Int) by omega] at this
    rw [this, Rat.div_def, Rat.div_def]
    grind
  have iv : 1 / x * x = 1 := Rat.div_mul_cancel (Rat.ne_of_gt hx)
  have iv1 : 1 / x ≤ 1 := le_of_mul hx (by rw [iv]; grind)
  have iv0 : 0 < 1 / x := by
    refine Rat.not_le.1 fun hle => ?_
    have := Rat.mul_le_mul_of_nonneg_right hle (Rat.le_of_lt hx)
    rw [iv] at this
    grind
  have c1 := cut_lo (1 / x) (p : Int)
  have c2 := cut_hi (1 / x) (p : Int)
  have hu := dq_pos (-(p : Int))
  have one : dq (2 ^ p) (-(p : Int)) = 1 := by rw [dq_scale]; exact two_cast p
  have nn : 0 ≤ cutQ (1 / x) (p : Int) := by
    refine Int.not_lt.1 fun hlt => ?_
    have := (dq_le_iff (cutQ (1 / x) (p : Int) + 1) 0 (-(p : Int))).2 (by omega)
    rw [dq_succ, dq_zero] at this
    grind
  have up : cutQ (1 / x) (p : Int) ≤ 2 ^ p := (dq_le_iff _ _ (-(p : Int))).1 (by rw [one]; exact Rat.le_trans c1 iv1)
  have ab : ∀ y : Int, 0 ≤ y → y ≤ 2 ^ p → AbP y p := fun y h0 h9 => by
    unfold AbP
    have : ((2 ^ p : Nat) : Int) = 2 ^ p := by push_cast; rfl
    omega
  refine ⟨e1, ab _ nn up, ?_, ?_, ?_, nn⟩
  · have d1 := cut_lo (-(dq 1 (b : Int) / x)) (k : Int)
    have d2 := cut_hi (-(dq 1 (b : Int) / x)) (k : Int)
    have hb := dq_pos (b : Int)
    have q1 : dq 1 (b : Int) / x ≤ dq 1 (b : Int) := by
      refine le_of_mul hx ?_
      rw [Rat.div_mul_cancel (Rat.ne_of_gt hx)]
      have := Rat.mul_le_mul_of_nonneg_left h1 (Rat.le_of_lt hb)
      grind
    have q0 : 0 ≤ dq 1 (b : Int) / x := by
      refine le_of_mul hx ?_
      rw [Rat.div_mul_cancel (Rat.ne_of_gt hx), Rat.zero_mul]
      exact Rat.le_of_lt hb
    refine ab _ ?_ ?_
    · have := (dq_le_iff (cutQ (-(dq 1 (b : Int) / x)) (k : Int)) 0 (-(k : Int))).1 (by rw [dq_zero]; grind)
      omega
    · have e : dq (-(2 ^ p)) (-(k : Int)) = -dq 1 (b : Int) := by
        rw [dq_neg]
        congr 1
        refine dq_eq (F := -(k : Int)) ?_ (by omega) (by omega)
        rw [show (-(k : Int) - -(k : Int)).toNat = 0 by omega, show ((b : Int) - -(k : Int)).toNat = p by omega]
        simp
      have h9 : dq (-(2 ^ p)) (-(k : Int)) < dq (cutQ (-(dq 1 (b : Int) / x)) (k : Int) + 1) (-(k : Int)) := by
        rw [e, dq_succ]
        grind
      have h8 : ¬ (cutQ (-(dq 1 (b : Int) / x)) (k : Int) + 1 ≤ -(2 ^ p)) := fun h => Rat.not_le.2 h9 ((dq_le_iff _ _ _).2 h)
      omega
  · have := Rat.mul_le_mul_of_nonneg_right c1 (Rat.le_of_lt hx)
    rw [iv] at this
    exact this
  · have := Rat.mul_le_mul_of_nonneg_right (Rat.le_of_lt c2) (Rat.le_of_lt hx)
    rw [iv] at this
    exact this

set_option maxHeartbeats 16000000 in
theorem lrec_any (M E F : Int) (p : Nat) (vx : Value) (w : World) (hx : IsD w vx M E) (hv : Dv M E) (lm : zl M ≤ 140) (he : -4500 ≤ E ∧ E ≤ 4500) (h1 : 1 ≤ dq M E) (hF : cutQ (1 / dq M E) (p : Int) = F) (hp : p ≤ 4160) (hT : Tab w) :
    Calls Tryz.prog 94 #[vx, .int .i64 (p : Int)] w (RetD8 w (mkM F (-(p : Int))) (mkE F (-(p : Int)))) := by
  obtain ⟨A, c, rfl, _, hn⟩ := hx.form
  have L0 := (Lq.mk0 w).n hn
  obtain ⟨b, hb⟩ : ∃ b : Nat, max ((p : Int) - 4096) 0 = (b : Int) := ⟨(max ((p : Int) - 4096) 0).toNat, by omega⟩
  obtain ⟨k, hk⟩ : ∃ k : Nat, (p : Int) - (b : Int) = (k : Int) := ⟨((p : Int) - (b : Int)).toNat, by omega⟩
  obtain ⟨r1, r2, r3, _, _, _⟩ := rec_bd h1 (show k + b = p by omega)
  rw [hF] at r1 r2
  have hpm : permB (-(b : Int)) = true := by
    unfold permB
    rw [decide_eq_true (show (-2048 : Int) ≤ -(b : Int) by omega), decide_eq_true (show -(b : Int) ≤ 8192 by omega)]
    rfl
  obtain ⟨y1, y2, y3⟩ := g_yes hpm 1
  rw [Int.neg_neg] at y1 y2 y3
  have ha1 : AbP 1 0 := by unfold AbP; decide
  obtain ⟨u1, u2, u3, u4, u5⟩ := nx (x := (b : Int)) ha1 (by omega) (by omega)
  have g1 := fun W (hW : Below w.heap.size w W) => gunit_any (-(b : Int)) W (by omega) (by omega) (hT.mono hW)
  rw [y1, y2, y3, u1] at g1
  obtain ⟨UU, hU⟩ : ∃ z, mkM 1 (b : Int) = z := ⟨_, rfl⟩
  obtain ⟨VV, hV⟩ : ∃ z, mkE 1 (b : Int) = z := ⟨_, rfl⟩
  rw [hU] at g1 u2 u4 u5
  rw [hV] at g1 u3 u4 u5
  have g2 := fun x W h => i10point_any UU VV x W h (by omega) (by omega) u4
  have g3 := fun x W h => i10point_any M E x W h (by omega) (by omega) hv
  have hwk : workB (k : Int) = true := by
    unfold workB
    rw [decide_eq_true (show (0 : Int) ≤ (k : Int) by omega), decide_eq_true (show (k : Int) ≤ 4096 by omega)]
    rfl
  have hM0 : 0 < M := (dq_gt0 M E).1 (by generalize dq M E = q at *; grind)
  have g4 := fun x y W h j (hW : Below w.heap.size w W) => adiv_pos UU VV UU VV M E M E (k : Int) x y W h j (by omega) (by omega) (by omega) (by omega) (by omega) (by omega) (by omega) (by omega) (by rw [dcm_self]; omega) (by rw [dcm_self]; omega) (by omega) (by omega) (hT.mono hW) hwk rfl (by rw [cmpI_gt hM0]; omega) (by rw [cmpI_gt hM0]; omega)
  rw [u5] at g4
  obtain ⟨q, hq⟩ : ∃ q, dq 1 (b : Int) / dq M E = q := ⟨_, rfl⟩
  rw [hq] at r1 r3 g4
  have em : min4 q q q q = q := by rcases min4_or q q q q with h | h | h | h <;> exact h
  have ex : max4 q q q q = q := by rcases max4_or q q q q with h | h | h | h <;> exact h
  have z1 := r2.zl
  have z2 := r3.zl
  have hen := fun W => RetEn.ok (lo := q) (hi := q) hwk (z := 3) (by rw [r1]; omega) (by omega) (by omega) Rat.le_refl W
  rw [em, ex] at g4
  simp only [hen] at g4
  unfold enM enE at g4
  rw [r1] at g4
  obtain ⟨f1, f2, f3, f4, f5⟩ := nx (x := -(k : Int)) r2 (by omega) (by omega)
  obtain ⟨d1, d2, d3, d4, d5⟩ := nx (x := -(p : Int)) r2 (by omega) (by omega)
  obtain ⟨X, hX⟩ : ∃ z, mkM F (-(k : Int)) = z := ⟨_, rfl⟩
  obtain ⟨Y, hY⟩ : ∃ z, mkE F (-(k : Int)) = z := ⟨_, rfl⟩
  rw [hX] at g4 f2 f4 f5
  rw [hY] at g4 f3 f4 f5
  have hr5 : mkR X (Y + -(b : Int)) = 0 := mk_fits9 (by omega) (by omega) (by omega)
  have e5 : mkM X (Y + -(b : Int)) = mkM F (-(p : Int)) ∧ mkE X (Y + -(b : Int)) = mkE F (-(p : Int)) := by
    refine mk_uniq hr5 d1 ?_
    have h9 := dq_mul X Y 1 (-(b : Int))
    rw [Int.mul_one] at h9
    have h8 := dq_mul F (-(k : Int)) 1 (-(b : Int))
    rw [Int.mul_one, show -(k : Int) + -(b : Int) = -(p : Int) by omega] at h8
    rw [h9, f5, h8]
  have g5 := fun x W h (hW : Below w.heap.size w W) => dshift_any X Y (-(b : Int)) x W h (by omega) (by omega) (by omega) (hT.mono hW)
  rw [hr5, e5.1, e5.2] at g5
  have w1 : IntKind.i64.wrap ((p : Int) - 4096) = (p : Int) - 4096 := by rw [IntKind.wrap_i64]; omega
  have w2 : IntKind.i64.wrap (-(b : Int)) = -(b : Int) := by rw [IntKind.wrap_i64]; omega
  have w3 : IntKind.i64.wrap ((p : Int) - (b : Int)) = (k : Int) := by rw [IntKind.wrap_i64]; omega
  clear r1 r2 r3 y1 y2 y3 ha1 u1 u2 u3 u4 u5 hwk hM0 em ex z1 z2 hen f1 f2 f3 f4 f5 d1 d2 d3 d4 d5 hr5 e5 hpm hX hY hU hV hq hk hp hT hF h1 lm he hv hx
  generalize mkM F (-(p : Int)) = Z at *
  generalize mkE F (-(p : Int)) = Q at *
  generalize upM q (k : Int) = UM at *
  generalize upE q (k : Int) = UE at *
  have G1 := Lib.hid g1
  have G2 := Lib.hid g2
  have G3 := Lib.hid g3
  have G4 := Lib.hid g4
  have G5 := Lib.hid g5
  clear g1 g2 g3 g4 g5
  go_enter Tryz.func94, Tryz.ntmps94
  have L := ((L0.varD (w.heap.size) (by simp) (ng M) A (zl M) c E).varD (w.heap.size + 1) (by simp) false none 0 0 0)
  (try go_wp2_with fail)
  refine (G1.out _ L.below).mono ?_
  rintro e w1 ⟨v9, rfl, iz, be⟩
  obtain ⟨A1, c1, rfl, _, in9⟩ := iz.form
  replace L := (L.step be).n in9
  clear be iz in9
  have hl9 := L.b0.lt
  replace L := L.varD w1.heap.size rfl (ng UU) A1 (zl UU) c1 VV
  have c00 := L.b0.c30
  have c01 := L.b0.c31
  have c02 := L.b0.c32
  go_wp2_with fail
  clear c00 c01 c02
  obtain ⟨g1, hg1⟩ : ∃ g9, w1.heap.size = g9 := ⟨_, rfl⟩
  rw [hg1] at L hl9 ⊢
  clear hg1
  have hl_g1 := hl9
  clear hl9
  obtain ⟨V, hV, L9⟩ := L.name
  rw [hV]
  clear hV L
  have L := L9
  clear L9
  have Q0 := Lib.hid (fun Z (hZ : Below V.heap.size V Z) => (L.b0.mono hZ).c30)
  have Q1 := Lib.hid (fun Z (hZ : Below V.heap.size V Z) => (L.b0.mono hZ).c31)
  have Q2 := Lib.hid (fun Z (hZ : Below V.heap.size V Z) => (L.b0.mono hZ).c32)
  have Q3 := Lib.hid (fun Z (hZ : Below V.heap.size V Z) => (L.tl.tl.b0.mono hZ).c30)
  have Q4 := Lib.hid (fun Z (hZ : Below V.heap.size V Z) => (L.tl.tl.b0.mono hZ).c31)
  have Q5 := Lib.hid (fun Z (hZ : Below V.heap.size V Z) => (L.tl.tl.b0.mono hZ).c32)
  have hb0 := L.b0.lt
  have hb1 := L.tl.tl.b0.lt
  have D0 : Dq V V [(.slice A1 (zl UU) c1, (UU : Int).natAbs), (.slice A (zl M) c, (M : Int).natAbs)] [] [] [] := ⟨(((Lq.mk0 V).n (L.getN (v := .slice A (zl M) c) (x := (M : Int).natAbs) (by simp))).n (L.getN (v := .slice A1 (zl UU) c1) (x := (UU : Int).natAbs) (by simp))), List.nodup_nil, fun p hp => by cases hp⟩
  have D := D0.drew
  have hVw := L.below.size
  have HVW := Lib.hid (fun Z (hZ : Below V.heap.size V Z) => L.below.trans (hZ.mono hVw))
  have LL := Lib.hid L
  clear L
  obtain ⟨K, hK⟩ : ∃ K, V.heap.size = K := ⟨_, rfl⟩
  have hz0 : K ≤ V.heap.size := by omega
  have hmd : V.drew.heap.size = K := hK
  have hc0 : g1 < K := by omega
  have hc1 : w.heap.size < K := by omega
  go_cut [8, 9] from 22 to 32 (fun s0 s1 wx => s1 = .int .i64 0 ∧ Made1I V X Y UM UE s0 wx)
  case first =>
    go_region_held3 (fun w' => w'.cell? ⟨g1, 0, none⟩ = some (.bool (ng UU)) ∧ w'.cell? ⟨g1, 1, none⟩ = some (.slice A1 (zl UU) c1) ∧ w'.cell? ⟨g1, 2, none⟩ = some (.int .i64 VV) ∧ w'.cell? ⟨w.heap.size, 0, none⟩ = some (.bool (ng M)) ∧ w'.cell? ⟨w.heap.size, 1, none⟩ = some (.slice A (zl M) c) ∧ w'.cell? ⟨w.heap.size, 2, none⟩ = some (.int .i64 E)) (((try dsimp only); refine ⟨?_, ?_, ?_, ?_, ?_, ?_⟩ <;> (repeat (first | (with_reducible exact Q0.out _ D.lq.below) | (with_reducible exact Q0.out _ D0.lq.below) | (with_reducible exact Q1.out _ D.lq.below) | (with_reducible exact Q1.out _ D0.lq.below) | (with_reducible exact Q2.out _ D.lq.below) | (with_reducible exact Q2.out _ D0.lq.below) | (with_reducible exact Q3.out _ D.lq.below) | (with_reducible exact Q3.out _ D0.lq.below) | (with_reducible exact Q4.out _ D.lq.below) | (with_reducible exact Q4.out _ D0.lq.below) | (with_reducible exact Q5.out _ D.lq.below) | (with_reducible exact Q5.out _ D0.lq.below) | (with_reducible refine c_alloc _ ?_) | (with_reducible refine c_drew ?_) | (with_reducible refine c_set ?_ (by assumption) ?_) | omega)))) (first | (go_at_call 146; (with_reducible refine (G2.out _ _ ?_).mono ?_); (· (first | (with_reducible refine isD_n (D.getN ?_); (repeat (first | (with_reducible exact List.mem_cons_self) | apply List.mem_cons_of_mem))) | (with_reducible refine isD_n ((D.boxI false none 0 0 0 false none 0 0 0).getN ?_); (repeat (first | (with_reducible exact List.mem_cons_self) | apply List.mem_cons_of_mem))) | (with_reducible refine isD_n ((D0.boxI false none 0 0 0 false none 0 0 0).drew.getN ?_); (repeat (first | (with_reducible exact List.mem_cons_self) | apply List.mem_cons_of_mem))))); rintro e9 wh ⟨vh, rfl, ii, be⟩; obtain ⟨A2, c2, B2, d2, rfl, ia, ib⟩ := ii.form; (first | (replace D := D.step be) | (replace D := (D.boxMI hmd false none 0 0 0 false none 0 0 0).step be) | (replace D := (D.boxI false none 0 0 0 false none 0 0 0).step be)); have hz := be.size; (try simp at hz); replace D := (D.n ib).n ia; (try (have x00 := D.lq.b0.c60; have y00 := D.lq.b0.fr 0; have x01 := D.lq.b0.c61; have y01 := D.lq.b0.fr 1; have x02 := D.lq.b0.c62; have y02 := D.lq.b0.fr 2; have x03 := D.lq.b0.c63; have y03 := D.lq.b0.fr 3; have x04 := D.lq.b0.c64; have y04 := D.lq.b0.fr 4; have x05 := D.lq.b0.c65; have y05 := D.lq.b0.fr 5)); (try obtain ⟨na, nb, nc, nd, nl⟩ := D.n0)) | (go_at_call 146; (with_reducible refine (G3.out _ _ ?_).mono ?_); (· (first | (with_reducible refine isD_n (D.getN ?_); (repeat (first | (with_reducible exact List.mem_cons_self) | apply List.mem_cons_of_mem))) | (with_reducible refine isD_n ((D.boxI false none 0 0 0 false none 0 0 0).getN ?_); (repeat (first | (with_reducible exact List.mem_cons_self) | apply List.mem_cons_of_mem))) | (with_reducible refine isD_n ((D0.boxI false none 0 0 0 false none 0 0 0).drew.getN ?_); (repeat (first | (with_reducible exact List.mem_cons_self) | apply List.mem_cons_of_mem))))); rintro e9 wh ⟨vh, rfl, ii, be⟩; obtain ⟨A3, c3, B3, d3, rfl, ia, ib⟩ := ii.form; (first | (replace D := D.step be) | (replace D := (D.boxMI hmd false none 0 0 0 false none 0 0 0).step be) | (replace D := (D.boxI false none 0 0 0 false none 0 0 0).step be)); have hz := be.size; (try simp at hz); replace D := (D.n ib).n ia; (try (have x00 := D.lq.b0.c60; have y00 := D.lq.b0.fr 0; have x01 := D.lq.b0.c61; have y01 := D.lq.b0.fr 1; have x02 := D.lq.b0.c62; have y02 := D.lq.b0.fr 2; have x03 := D.lq.b0.c63; have y03 := D.lq.b0.fr 3; have x04 := D.lq.b0.c64; have y04 := D.lq.b0.fr 4; have x05 := D.lq.b0.c65; have y05 := D.lq.b0.fr 5)); (try obtain ⟨na, nb, nc, nd, nl⟩ := D.n0)) | (go_at_call 145; (with_reducible refine (G4.out _ _ _ ?_ ?_ ?_).mono ?_); (· (first | (with_reducible refine isI_n (D.getN ?_) (D.getN ?_) <;> (repeat (first | (with_reducible exact List.mem_cons_self) | apply List.mem_cons_of_mem))) | (with_reducible refine isI_n ((D.boxI false none 0 0 0 false none 0 0 0).getN ?_) ((D.boxI false none 0 0 0 false none 0 0 0).getN ?_) <;> (repeat (first | (with_reducible exact List.mem_cons_self) | apply List.mem_cons_of_mem))) | (with_reducible refine isI_n ((D0.boxI false none 0 0 0 false none 0 0 0).drew.getN ?_) ((D0.boxI false none 0 0 0 false none 0 0 0).drew.getN ?_) <;> (repeat (first | (with_reducible exact List.mem_cons_self) | apply List.mem_cons_of_mem))))); (· (first | (with_reducible refine isI_n (D.getN ?_) (D.getN ?_) <;> (repeat (first | (with_reducible exact List.mem_cons_self) | apply List.mem_cons_of_mem))) | (with_reducible refine isI_n ((D.boxI false none 0 0 0 false none 0 0 0).getN ?_) ((D.boxI false none 0 0 0 false none 0 0 0).getN ?_) <;> (repeat (first | (with_reducible exact List.mem_cons_self) | apply List.mem_cons_of_mem))) | (with_reducible refine isI_n ((D0.boxI false none 0 0 0 false none 0 0 0).drew.getN ?_) ((D0.boxI false none 0 0 0 false none 0 0 0).drew.getN ?_) <;> (repeat (first | (with_reducible exact List.mem_cons_self) | apply List.mem_cons_of_mem))))); (· (first | (with_reducible exact HVW.out _ D.lq.below) | (with_reducible exact HVW.out _ (D.boxI false none 0 0 0 false none 0 0 0).lq.below) | (with_reducible exact HVW.out _ (D0.boxI false none 0 0 0 false none 0 0 0).drew.lq.below))); rintro e9 wh ⟨vh, rfl, ii, be⟩; obtain ⟨A4, c4, B4, d4, rfl, ia, ib⟩ := ii.form; (first | (replace D := D.step be) | (replace D := (D.boxMI hmd false none 0 0 0 false none 0 0 0).step be) | (replace D := (D.boxI false none 0 0 0 false none 0 0 0).step be)); have hz := be.size; (try simp at hz); replace D := (D.n ib).n ia; (try (have x00 := D.lq.b0.c60; have y00 := D.lq.b0.fr 0; have x01 := D.lq.b0.c61; have y01 := D.lq.b0.fr 1; have x02 := D.lq.b0.c62; have y02 := D.lq.b0.fr 2; have x03 := D.lq.b0.c63; have y03 := D.lq.b0.fr 3; have x04 := D.lq.b0.c64; have y04 := D.lq.b0.fr 4; have x05 := D.lq.b0.c65; have y05 := D.lq.b0.fr 5)); (try obtain ⟨na, nb, nc, nd, nl⟩ := D.n0)))
    all_goals
      go_wp2_with fail
      go_meet
      refine ⟨rfl, ?_⟩
      first
      | ((with_reducible refine made1i_a D ?_ ?_) <;> (repeat (first | (with_reducible exact List.mem_cons_self) | apply List.mem_cons_of_mem)))
      | ((with_reducible refine made1i_b D ?_ ?_) <;> (repeat (first | (with_reducible exact List.mem_cons_self) | apply List.mem_cons_of_mem)))
  case rest =>
    obtain ⟨rfl, g2, A5, c5, B5, d5, rfl, hg9, bw, hb9, q1, q2⟩ := hcut
    have L := (((LL.out.step bw).n q2).n q1).b hb9
    have hl_g2 := hg9
    clear D D0 hmd LL hb9 q1 q2 bw hg9 HVW Q0 Q1 Q2 Q3 Q4 Q5 hc0 hc1
    generalize wc = wd1 at *
    have c00 := L.b0.c60
    have c01 := L.b0.c61
    have c02 := L.b0.c62
    have c03 := L.b0.c63
    have c04 := L.b0.c64
    have c05 := L.b0.c65
    (try go_wp2_with fail)
    refine (G5.out _ _ (isD_n (m := X) (e := Y) (s := .slice A5 (zl X) c5) (L.getN (by simp))) L.below).mono ?_
    rintro e w3 ⟨v9, rfl, iz, be⟩
    clear c00 c01 c02 c03 c04 c05
    obtain ⟨A6, c6, rfl, _, in9⟩ := iz.form
    replace L := (L.step be).n in9
    clear be iz in9
    have hl9 := L.b0.lt
    have L9 := L.subx (ns' := [(.slice A6 (zl Z) c6, Z.natAbs)]) (bs' := [(w.heap.size + 1, 26, #[.bool false, .slice none 0 0, .int .i64 0])]) (by simp) (by simp)
    clear L
    have L := L9
    clear L9
    have n9 : w.heap.size + 1 ≠ w3.heap.size := by omega
    have c00 := L.b0.c30
    have f00 := L.b0.fr 0
    have c01 := L.b0.c31
    have f01 := L.b0.fr 1
    have c02 := L.b0.c32
    have f02 := L.b0.fr 2
    have LN := L.varD w3.heap.size rfl (ng Z) A6 (zl Z) c6 Q
    have v0 := LN.b0.c30
    have v1 := LN.b0.c31
    have v2 := LN.b0.c32
    have v3 := LN.tl.b0.c30
    have v4 := LN.tl.b0.c31
    have v5 := LN.tl.b0.c32
    have v6 := LN.tl.b0.fr 0
    have v7 := LN.tl.b0.fr 1
    have v8 := LN.tl.b0.fr 2
    go_wp2_with fail
    clear c00 f00 c01 f01 c02 f02
    clear v0 v1 v2 v3 v4 v5 v6 v7 v8
    clear L
    have L := LN.swap
    clear LN
    have LP := L.putD (by omega) (by first | (simp; done) | (simp; omega)) (ng Z) A6 (zl Z) c6 (Q)
    have k0 := LP.b0.c30
    have k1 := LP.b0.c31
    have k2 := LP.b0.c32
    unfold put3 at k0 k1 k2
    exact bodyPost_ret (v := .agg #[.bool (ng Z), .slice A6 (zl Z) c6, .int .i64 (Q)]) (by simp [results, Tryz.results94, go_sem, k0, k1, k2]) rfl ⟨_, rfl, isD_n (LP.getN (by simp)), LP.below⟩

/-- The nearest number of a grid. -/
theorem near_bd (q : Rat) (p : Nat) {Mi : Int} (h : (cutQ q ((p : Int) + 1) + 1) / 2 = Mi) : q ≤ dq Mi (-(p : Int)) + dq 1 (-(p : Int)) ∧ dq Mi (-(p : Int)) ≤ q + dq 1 (-(p : Int)) := by
  have c1 := cut_lo q ((p : Int) + 1)
  have c2 := cut_hi q ((p : Int) + 1)
  obtain ⟨c, hc⟩ : ∃ c, cutQ q ((p : Int) + 1) = c := ⟨_, rfl⟩
  rw [hc] at h c1 c2
  have e : ∀ X : Int, dq X (-(p : Int)) = dq (2 * X) (-((p : Int) + 1)) := fun X => by
    refine dq_eq (F := -((p : Int) + 1)) ?_ (by omega) (by omega)
    rw [show (-(p : Int) - -((p : Int) + 1)).toNat = 1 by omega, show (-((p : Int) + 1) - -((p : Int) + 1)).toNat = 0 by omega]
    omega
  rw [e Mi, e 1, ← dq_succ] at *
  have hv := dq_pos (-((p : Int) + 1))
  have h1 := (dq_le_iff (c + 1) (2 * Mi + 1) (-((p : Int) + 1))).2 (by omega)
  have h2 := (dq_le_iff (2 * Mi) (c + 1) (-((p : Int) + 1))).2 (by omega)
  have e2 : dq (2 * 1) (-((p : Int) + 1)) = dq 1 (-((p : Int) + 1)) + dq 1 (-((p : Int) + 1)) := by
    rw [← dq_addI]; rfl
  rw [e2]
  rw [dq_succ] at h1 h2 c2
  rw [dq_succ] at h1
  generalize dq c (-((p : Int) + 1)) = x at *
  generalize dq (2 * Mi) (-((p : Int) + 1)) = y at *
  generalize dq 1 (-((p : Int) + 1)) = v at *
  clear e e2 hc
  constructor <;> grind
theorem abp_in {y : Int} {p : Nat} (h0 : -(2 ^ p) ≤ y) (h : y ≤ 2 ^ p) : AbP y p := by
  unfold AbP
  have : ((2 ^ p : Nat) : Int) = 2 ^ p := by push_cast; rfl
  omega
theorem dq_abp {y : Int} {p : Nat} (h0 : -1 ≤ dq y (-(p : Int))) (h : dq y (-(p : Int)) ≤ 1) : AbP y p := by
  refine abp_in ((dq_le_iff _ _ (-(p : Int))).1 ?_) ((dq_le_iff _ _ (-(p : Int))).1 ?_)
  · rw [dq_neg, one_p]; exact h0
  · rw [one_p]; exact h
theorem u1000 {p : Nat} (h : 32 ≤ p) : dq 1 (-(p : Int)) ≤ 1 / 1000 := by
  refine Rat.le_trans (dq_anti (a := -(p : Int)) (b := -10) (by omega)) ?_
  decide +kernel
theorem nxc {T x : Int} {j : Nat} (B : Int) (h : AbP T j) (hj : j ≤ 20000) (hx : -4500 ≤ x ∧ x ≤ 0) (hB0 : 0 ≤ B) (hB : x + (j : Int) + 32 ≤ B) :
    mkR T x = 0 ∧ zl (mkM T x) ≤ j / 32 + 1 ∧ (-4500 ≤ mkE T x ∧ mkE T x ≤ B) ∧ Dv (mkM T x) (mkE T x) ∧ dq (mkM T x) (mkE T x) = dq T x := by
  obtain ⟨a1, a2, a3, a4, a5⟩ := nx (x := x) h hj (by omega)
  exact ⟨a1, a2, by omega, a4, a5⟩
theorem nx_one {p : Nat} (hp : p ≤ 5000) : mkM 1 0 = mkM (2 ^ p) (-(p : Int)) ∧ mkE 1 0 = mkE (2 ^ p) (-(p : Int)) := by
  obtain ⟨a1, _⟩ := nx (T := 1) (x := 0) (j := 0) (by unfold AbP; decide) (by omega) (by omega)
  obtain ⟨b1, _⟩ := nx (T := 2 ^ p) (x := -(p : Int)) (j := p) (abp_in (by have := pow2_pos p; omega) (Int.le_refl _)) (by omega) (by omega)
  exact mk_uniq a1 b1 (by rw [one_p]; rfl)
theorem nx_sub {s t x : Int} {j : Nat} (h1 : AbP s j) (h2 : AbP t j) (hj : j ≤ 6000) (hx : -6000 ≤ x ∧ x ≤ 100) :
    mkR (addS (mkM s x) (mkE s x) (-(mkM t x)) (mkE t x)) (min (mkE s x) (mkE t x)) = 0 ∧
    mkM (addS (mkM s x) (mkE s x) (-(mkM t x)) (mkE t x)) (min (mkE s x) (mkE t x)) = mkM (s - t) x ∧
    mkE (addS (mkM s x) (mkE s x) (-(mkM t x)) (mkE t x)) (min (mkE s x) (mkE t x)) = mkE (s - t) x := by
  obtain ⟨a1, a2, a3, a4, a5⟩ := nx (x := x) h1 (by omega) (by omega)
  obtain ⟨b1, b2, b3, b4, b5⟩ := nx (x := x) h2 (by omega) (by omega)
  have hn := zl_neg (mkM t x)
  have hz := zl_addS (mkM s x) (mkE s x) (-(mkM t x)) (mkE t x) 7500 (by omega) (by omega)
  obtain ⟨c1, _⟩ := nx (x := x) (h1.add h2.neg) (by omega) (by omega)
  rw [← Int.sub_eq_add_neg] at c1
  have hr : mkR (addS (mkM s x) (mkE s x) (-(mkM t x)) (mkE t x)) (min (mkE s x) (mkE t x)) = 0 := mk_fits9 (by omega) (by omega) (by omega)
  exact ⟨hr, mk_uniq hr c1 (by rw [dq_add, dq_neg, a5, b5, Int.sub_eq_add_neg, dq_addI, dq_neg])⟩
theorem nx_mulk {s t x : Int} {j k : Nat} (h1 : AbP s j) (h2 : AbP t k) (hj : j ≤ 6000) (hk : k ≤ 100) (hx : -6000 ≤ x ∧ x ≤ 100) :
    mkR (mkM s x * mkM t 0) (mkE s x + mkE t 0) = 0 ∧ mkM (mkM s x * mkM t 0) (mkE s x + mkE t 0) = mkM (s * t) x ∧ mkE (mkM s x * mkM t 0) (mkE s x + mkE t 0) = mkE (s * t) x := by
  obtain ⟨a1, a2, a3, a4, a5⟩ := nx (x := x) h1 (by omega) (by omega)
  obtain ⟨b1, b2, b3, b4, b5⟩ := nx (x := 0) h2 (by omega) (by omega)
  obtain ⟨c1, _⟩ := nx (x := x) (h1.mul h2) (by omega) (by omega)
  have hz := zl_mul (mkM s x) (mkM t 0)
  have hr : mkR (mkM s x * mkM t 0) (mkE s x + mkE t 0) = 0 := mk_fits9 (by omega) (by omega) (by omega)
  exact ⟨hr, mk_uniq hr c1 (by rw [dq_mul, a5, b5, ← dq_mul, Int.add_zero])⟩
theorem nx_dbl {s x : Int} {j : Nat} (h1 : AbP s j) (hj : j ≤ 6000) (hx : -6000 ≤ x ∧ x ≤ 100) : mkR (mkM s x) (mkE s x + 1) = 0 ∧ mkM (mkM s x) (mkE s x + 1) = mkM (2 * s) x ∧ mkE (mkM s x) (mkE s x + 1) = mkE (2 * s) x := by
  obtain ⟨a1, a2, a3, a4, a5⟩ := nx (x := x) h1 (by omega) (by omega)
  have h2 : AbP (2 * s) (j + 1) := by
    rw [show 2 * s = s + s by omega]
    exact h1.add h1
  obtain ⟨c1, _⟩ := nx (x := x) h2 (by omega) (by omega)
  have hr : mkR (mkM s x) (mkE s x + 1) = 0 := mk_fits9 (by omega) (by omega) (by omega)
  refine ⟨hr, mk_uniq hr c1 ?_⟩
  have e1 := dq_mul (mkM s x) (mkE s x) 1 1
  have e2 := dq_mul 2 0 s x
  rw [Int.mul_one] at e1
  rw [Int.zero_add] at e2
  rw [e1, e2, a5, Rat.mul_comm]
  congr 1
/-- The numbers, one from the other. -/
structure LgN (q : Rat) (p : Nat) (Mi R Z Q : Int) : Prop where
  mi : (cutQ q ((p : Int) + 1) + 1) / 2 = Mi
  r : cutQ (1 / dq (Mi + 2 ^ p) (-(p : Int))) (p : Int) = R
  z : cutQ (dq (Mi - 2 ^ p) (-(p : Int)) * dq R (-(p : Int))) (p : Int) = Z
  q : cutQ (dq Z (-(p : Int)) * dq Z (-(p : Int))) (p : Int) = Q
structure LgB (q : Rat) (p : Nat) (Mi R Z Q : Int) : Prop where
  d1 : q ≤ dq Mi (-(p : Int)) + dq 1 (-(p : Int))
  d2 : dq Mi (-(p : Int)) ≤ q + dq 1 (-(p : Int))
  r1 : dq R (-(p : Int)) * (dq Mi (-(p : Int)) + 1) ≤ 1
  r2 : 1 ≤ (dq R (-(p : Int)) + dq 1 (-(p : Int))) * (dq Mi (-(p : Int)) + 1)
  z1 : dq Z (-(p : Int)) ≤ (dq Mi (-(p : Int)) - 1) * dq R (-(p : Int))
  z2 : (dq Mi (-(p : Int)) - 1) * dq R (-(p : Int)) ≤ dq Z (-(p : Int)) + dq 1 (-(p : Int))
  z3 : -(1 / 4) ≤ dq Z (-(p : Int))
  z4 : dq Z (-(p : Int)) ≤ 1 / 4
  q1 : dq Q (-(p : Int)) ≤ dq Z (-(p : Int)) * dq Z (-(p : Int))
  q2 : dq Z (-(p : Int)) * dq Z (-(p : Int)) ≤ dq Q (-(p : Int)) + dq 1 (-(p : Int))
  am : AbP Mi (p + 1)
  aA : AbP (Mi + 2 ^ p) (p + 2)
  aB : AbP (Mi - 2 ^ p) (p + 2)
  a1 : 1 ≤ dq (Mi + 2 ^ p) (-(p : Int))
  aR : AbP R p
  aZ : AbP Z p
  q0 : 0 ≤ Q
  q16 : 16 * Q < 2 ^ p
theorem LgN.all {q : Rat} {p : Nat} {Mi R Z Q : Int} (h : LgN q p Mi R Z Q) (hq1 : 3 / 4 ≤ q) (hq2 : q ≤ 3 / 2) (hp : 32 ≤ p) : LgB q p Mi R Z Q := by
  obtain ⟨h1, h2, h3, h4⟩ := h
  have hu := dq_pos (-(p : Int))
  have hu1 := u1000 hp
  obtain ⟨d1, d2⟩ := near_bd q p h1
  have eA : dq (Mi + 2 ^ p) (-(p : Int)) = dq Mi (-(p : Int)) + 1 := by rw [dq_addI, one_p]
  have eB : dq (Mi - 2 ^ p) (-(p : Int)) = dq Mi (-(p : Int)) - 1 := by rw [Int.sub_eq_add_neg, dq_addI, dq_neg, one_p, Rat.sub_eq_add_neg]
  have a1 : 1 ≤ dq (Mi + 2 ^ p) (-(p : Int)) := by
    rw [eA]
    generalize dq Mi (-(p : Int)) = x at *
    generalize dq 1 (-(p : Int)) = u at *
    clear h1 h2 h3 h4 eA eB
    grind
  obtain ⟨_, r2, _, r4, r5, r6⟩ := rec_bd (p := p) (b := 0) (k := p) a1 (by omega)
  rw [h2] at r2 r4 r5
  rw [eA] at r4 r5
  have z1 := cut_lo (dq (Mi - 2 ^ p) (-(p : Int)) * dq R (-(p : Int))) (p : Int)
  have z2 := cut_hi (dq (Mi - 2 ^ p) (-(p : Int)) * dq R (-(p : Int))) (p : Int)
  rw [h3, eB] at z1 z2
  obtain ⟨z3, z4⟩ := ln_argz4 hq1 hq2 (Rat.le_of_lt hu) hu1 d1 d2 r4 r5 z1 (Rat.le_of_lt z2)
  have q1 := cut_lo (dq Z (-(p : Int)) * dq Z (-(p : Int))) (p : Int)
  have q2 := cut_hi (dq Z (-(p : Int)) * dq Z (-(p : Int))) (p : Int)
  have q0 := cut_nn (rsq_nn (dq Z (-(p : Int)))) (p := (p : Int))
  rw [h4] at q0 q1 q2
  have zz : dq Z (-(p : Int)) * dq Z (-(p : Int)) ≤ 3 / 50 := by
    generalize dq Z (-(p : Int)) = z at *
    rcases (Rat.le_total : 0 ≤ z ∨ z ≤ 0) with h | h
    · have := rmul_le z4 z4 h (by grind)
      grind
    · have := rmul_le (a := -z) (b := 121 / 500) (c := -z) (d := 121 / 500) (by grind) (by grind) (by grind) (by grind)
      grind
  have t2 : ∀ y : Int, dq y (-(p : Int)) ≤ 2 → y ≤ 2 * 2 ^ p := fun y hy => (dq_le_iff _ _ (-(p : Int))).1 (by
    have e : dq (2 * 2 ^ p) (-(p : Int)) = 2 := by
      rw [dq_scale, Rat.intCast_mul, Rat.mul_assoc, two_cast, Rat.mul_one]
      rfl
    rw [e]; exact hy)
  have mb1 : Mi ≤ 2 * 2 ^ p := t2 Mi (by
    generalize dq Mi (-(p : Int)) = x at *
    generalize dq 1 (-(p : Int)) = u at *
    clear h1 h2 h3 h4 eA eB
    grind)
  have mb0 : 0 ≤ Mi := (dq_le_iff _ _ (-(p : Int))).1 (by
    rw [dq_zero]
    generalize dq Mi (-(p : Int)) = x at *
    generalize dq 1 (-(p : Int)) = u at *
    clear h1 h2 h3 h4 eA eB
    grind)
  have hp0 := pow2_pos p
  have e1 : (2 : Int) ^ (p + 1) = 2 * 2 ^ p := by rw [Int.pow_succ, Int.mul_comm]
  have e2 : (2 : Int) ^ (p + 2) = 4 * 2 ^ p := by rw [Int.pow_succ, Int.pow_succ]; omega
  refine ⟨d1, d2, r4, r5, z1, Rat.le_of_lt z2, by grind, by grind, q1, Rat.le_of_lt q2, abp_in (by omega) (by omega), abp_in (by omega) (by omega), abp_in (by omega) (by omega), a1, r2, dq_abp (by grind) (by grind), q0, ?_⟩
  refine Int.not_le.1 fun hle => ?_
  have h9 := (dq_le_iff _ _ (-(p : Int))).2 hle
  rw [one_p, dq_scale, Rat.intCast_mul, Rat.mul_assoc, ← dq_scale] at h9
  have e : ((16 : Int) : Rat) = 16 := rfl
  rw [e] at h9
  generalize dq Q (-(p : Int)) = x at *
  generalize dq Z (-(p : Int)) * dq Z (-(p : Int)) = y at *
  clear h1 h2 h3 h4 eA eB z1 z2 r4 r5
  grind
/-- What the sum says of the logarithm, given the logarithm of 2. -/
def LogOk (m e L : Int) (p : Nat) (S : Int) : Prop := UpE (dq L (-(p : Int))) 2 → LoE 2 (dq (L + 2) (-(p : Int))) → (spK m e).natAbs ≤ 3000 → UpE (dq (S - 32768) (-(p : Int))) (dq m e) ∧ LoE (dq m e) (dq (S + 32768) (-(p : Int)))
theorem LgB.gs {q : Rat} {p n : Nat} {Mi R Z Q T G : Int} (h : LgB q p Mi R Z Q) (s : SerOk Q p n T) (hp : 32 ≤ p) (hG : cutQ (dq Z (-(p : Int)) * dq T (-(p : Int))) (p : Int) = G) : AbP G p := by
  have hu := dq_pos (-(p : Int))
  have hu1 := u1000 hp
  have g1 := cut_lo (dq Z (-(p : Int)) * dq T (-(p : Int))) (p : Int)
  have g2 := cut_hi (dq Z (-(p : Int)) * dq T (-(p : Int))) (p : Int)
  rw [hG] at g1 g2
  have q0 := (dq_le_iff 0 Q (-(p : Int))).2 h.q0
  rw [dq_zero] at q0
  have q16 : dq Q (-(p : Int)) ≤ 1 / 16 := by
    have h1 := (dq_le_iff (16 * Q) (2 ^ p) (-(p : Int))).2 (by have := h.q16; omega)
    rw [one_p, dq_scale, Rat.intCast_mul, Rat.mul_assoc, ← dq_scale] at h1
    have e : ((16 : Int) : Rat) = 16 := rfl
    rw [e] at h1
    generalize dq Q (-(p : Int)) = x at *
    grind
  have t1 := Rat.le_trans s.up (hr_le q0 q16 n 0)
  have t0 := (dq_le_iff 0 T (-(p : Int))).2 s.t0
  rw [dq_zero] at t0
  have b1 := Rat.mul_le_mul_of_nonneg_right h.z4 t0
  have b2 := Rat.mul_le_mul_of_nonneg_right h.z3 t0
  generalize dq Z (-(p : Int)) * dq T (-(p : Int)) = y at *
  generalize dq T (-(p : Int)) = t at *
  refine dq_abp ?_ ?_
  · generalize dq G (-(p : Int)) = g at *
    clear hG h s q0 q16
    grind
  · generalize dq G (-(p : Int)) = g at *
    clear hG h s q0 q16
    grind
theorem lg_ok {m e L : Int} {p n : Nat} {Mi R Z Q T G S : Int} (hm : 0 < m) (h : LgB (dq m (spE m)) p Mi R Z Q) (s : SerOk Q p n T) (hp : 32 ≤ p) (hp2 : p ≤ 4160) (hG : cutQ (dq Z (-(p : Int)) * dq T (-(p : Int))) (p : Int) = G) (hS : S = 2 * G + L * spK m e) : LogOk m e L p S := by
  intro l1 l2 hk
  have hu := dq_pos (-(p : Int))
  have hu1 := u1000 hp
  obtain ⟨m1, m2⟩ := sp_bd hm
  have g1 := cut_lo (dq Z (-(p : Int)) * dq T (-(p : Int))) (p : Int)
  have g2 := cut_hi (dq Z (-(p : Int)) * dq T (-(p : Int))) (p : Int)
  rw [hG] at g1 g2
  have q0 := (dq_le_iff 0 Q (-(p : Int))).2 h.q0
  rw [dq_zero] at q0
  have pw := s.pw (dq Z (-(p : Int)) * dq Z (-(p : Int))) (rsq_nn _) (by rw [dq_succ]; exact h.q2)
  rw [rp_sq] at pw
  have pn : 0 ≤ rp (dq Z (-(p : Int))) (2 * n) := by
    rw [← rp_sq]
    exact rp_nn (rsq_nn _) n
  have hz3 := h.z3
  have hz4 := h.z4
  have hr : rp (dq Z (-(p : Int))) (2 * n + 1) ≤ dq 1 (-(p : Int)) ∧ -dq 1 (-(p : Int)) ≤ rp (dq Z (-(p : Int))) (2 * n + 1) := by
    show rp (dq Z (-(p : Int))) (2 * n) * dq Z (-(p : Int)) ≤ _ ∧ _ ≤ rp (dq Z (-(p : Int))) (2 * n) * dq Z (-(p : Int))
    have b1 := Rat.mul_le_mul_of_nonneg_left hz4 pn
    have b2 := Rat.mul_le_mul_of_nonneg_left hz3 pn
    generalize rp (dq Z (-(p : Int))) (2 * n) = y at *
    generalize dq Z (-(p : Int)) = z at *
    generalize dq 1 (-(p : Int)) = u at *
    clear g1 g2 hG h s q0 l1 l2
    constructor <;> grind
  obtain ⟨x, y⟩ := ln_whole (n := n) m1 (Rat.le_of_lt m2) (Rat.le_of_lt hu) hu1 h.d1 h.d2 h.r1 h.r2 h.z1 h.z2 q0 h.q1 h.q2 s.up s.lo g1 (Rat.le_of_lt g2) hr.1 hr.2
  have hm0 : 0 < dq m (spE m) := (dq_gt0 _ _).2 hm
  have hn : (n : Rat) ≤ 1041 := by
    have : n ≤ 1041 := by have := s.n4; omega
    exact_mod_cast this
  have two : ∀ k : Nat, rp 2 k = dq 1 (k : Int) := fun k => by
    have := rp_two 1 k
    rw [Int.one_mul] at this
    rw [← this]
    rfl
  have eL2 : dq (L + 2) (-(p : Int)) = dq L (-(p : Int)) + 2 * dq 1 (-(p : Int)) := by
    rw [dq_addI]
    congr 1
    rw [dq_scale]
    rfl
  have eC : ∀ c : Int, dq (S + c) (-(p : Int)) = 2 * dq G (-(p : Int)) + (spK m e : Rat) * dq L (-(p : Int)) + (c : Rat) * dq 1 (-(p : Int)) := fun c => by
    rw [hS, dq_addI, dq_addI, dq_scale c, dq_scale (2 * G), dq_scale (L * spK m e), Rat.intCast_mul, Rat.intCast_mul, dq_scale G, dq_scale L]
    have e2 : ((2 : Int) : Rat) = 2 := rfl
    rw [e2]
    grind
  have eD : dq (S - 32768) (-(p : Int)) = 2 * dq G (-(p : Int)) + (spK m e : Rat) * dq L (-(p : Int)) - 32768 * dq 1 (-(p : Int)) := by
    rw [Int.sub_eq_add_neg, eC]
    have : (((-32768 : Int)) : Rat) = -32768 := rfl
    rw [this]
    grind
  have eE := eC 32768
  have e3 : (((32768 : Int)) : Rat) = 32768 := rfl
  rw [e3] at eE
  rw [eD, eE]
  rw [eL2] at l2
  have hsum := sp_sum m e
  have hNu : ((n : Rat) + 25) * dq 1 (-(p : Int)) ≤ 1066 * dq 1 (-(p : Int)) := Rat.mul_le_mul_of_nonneg_right (by grind) (Rat.le_of_lt hu)
  rcases Int.le_total 0 (spK m e) with hk0 | hk0
  · obtain ⟨k, hkk⟩ : ∃ k : Nat, spK m e = (k : Int) := ⟨(spK m e).toNat, by omega⟩
    have hkb : (k : Rat) ≤ 3000 := by
      have : k ≤ 3000 := by omega
      exact_mod_cast this
    have hku : (k : Rat) * dq 1 (-(p : Int)) ≤ 3000 * dq 1 (-(p : Int)) := Rat.mul_le_mul_of_nonneg_right hkb (Rat.le_of_lt hu)
    have a1 := ln_red_up x l1 k
    have a2 := ln_red_lo y hm0 l2 k
    have ee : dq m (spE m) * rp 2 k = dq m e := by
      rw [two, ← dq_mul, Int.mul_one]
      congr 1
      omega
    rw [ee] at a1 a2
    rw [hkk, Rat.intCast_natCast]
    have hpos := a1.pos
    generalize dq m e = w at *
    generalize dq L (-(p : Int)) = l at *
    generalize dq 1 (-(p : Int)) = u at *
    generalize dq G (-(p : Int)) = g at *
    have x1 : (k : Rat) * (l + 2 * u) = (k : Rat) * l + 2 * ((k : Rat) * u) := by grind
    rw [x1] at a2
    generalize (k : Rat) * l = kl at *
    generalize (k : Rat) * u = ku at *
    generalize ((n : Rat) + 25) * u = nu at *
    exact ⟨a1.mono (by clear a1 a2 x y; grind), a2.mono (by clear a1 a2 x y; grind) (Rat.le_of_lt hpos)⟩
  · obtain ⟨k, hkk⟩ : ∃ k : Nat, spK m e = -(k : Int) := ⟨(-(spK m e)).toNat, by omega⟩
    have hkb : (k : Rat) ≤ 3000 := by
      have : k ≤ 3000 := by omega
      exact_mod_cast this
    have hku : (k : Rat) * dq 1 (-(p : Int)) ≤ 3000 * dq 1 (-(p : Int)) := Rat.mul_le_mul_of_nonneg_right hkb (Rat.le_of_lt hu)
    have a1 := ln_red_up' x l2 k
    have a2 := ln_red_lo' y hm0 l1 k
    have ee : dq m (spE m) * (rp 2 k)⁻¹ = dq m e := by
      have h1 : dq m e * rp 2 k = dq m (spE m) := by
        rw [two, ← dq_mul, Int.mul_one]
        congr 1
        omega
      have h2 : rp 2 k * (rp 2 k)⁻¹ = 1 := Rat.mul_inv_cancel _ (Rat.ne_of_gt (rp_pos (by decide) k))
      rw [← h1, Rat.mul_assoc, h2, Rat.mul_one]
    rw [ee] at a1 a2
    rw [hkk, Rat.intCast_neg, Rat.intCast_natCast]
    have hpos := a1.pos
    generalize dq m e = w at *
    generalize dq L (-(p : Int)) = l at *
    generalize dq 1 (-(p : Int)) = u at *
    generalize dq G (-(p : Int)) = g at *
    have x1 : (k : Rat) * (l + 2 * u) = (k : Rat) * l + 2 * ((k : Rat) * u) := by grind
    rw [x1] at a1
    have x2 : -(k : Rat) * l = -((k : Rat) * l) := by grind
    rw [x2]
    generalize (k : Rat) * l = kl at *
    generalize (k : Rat) * u = ku at *
    generalize ((n : Rat) + 25) * u = nu at *
    exact ⟨a1.mono (by clear a1 a2 x y; grind), a2.mono (by clear a1 a2 x y; grind) (Rat.le_of_lt hpos)⟩

theorem odd_dq (kn : Nat) (h : kn ≤ 5000) : AbP (2 * (kn : Int) + 1) 14 ∧ dq (2 * (kn : Int) + 1) 0 = 2 * (kn : Rat) + 1 ∧ (1 : Rat) ≤ 2 * (kn : Rat) + 1 := by
  refine ⟨?_, ?_, ?_⟩
  · have e : (2 : Nat) ^ 14 = 16384 := by decide
    unfold AbP
    rw [e]
    omega
  · rw [dq_int]
    push_cast
    rfl
  · have := nat_nn kn
    grind

set_option maxHeartbeats 32000000 in
theorem lser_any (Q : Int) (p : Nat) (vx : Value) (w : World) (hx : IsD w vx (mkM Q (-(p : Int))) (mkE Q (-(p : Int)))) (zs K : Nat) (hS : SeP Q p zs K) (hK : (p : Int).tdiv (zs : Int) = (K : Int)) (hz1 : (cmpI (mkM Q (-(p : Int))) 0 == 0) = true → (zs : Int) = (p : Int) + 1) (hz2 : (cmpI (mkM Q (-(p : Int))) 0 == 0) = false → -(topZ (mkM Q (-(p : Int))) (mkE Q (-(p : Int)))) = (zs : Int)) (hp4 : 4 ≤ p) (hp : p ≤ 4160) (hT : Tab w) :
    Calls Tryz.prog 95 #[vx, .int .i64 (p : Int)] w (RetD8 w (mkM (seT Q p zs K (K + 1)) (-(p : Int))) (mkE (seT Q p zs K (K + 1)) (-(p : Int)))) := by
  obtain ⟨A, c, rfl, _, hn⟩ := hx.form
  have L0 := (Lq.mk0 w).n hn
  have HT := Lib.hid (fun W (hW : Below w.heap.size w W) => hT.mono hW)
  have hQb : AbP Q p := abp_of hS.q0 (by have := hS.q1; have := hS.q0; omega)
  obtain ⟨n1, n2, n3, n4, n5⟩ := nx (x := -(p : Int)) hQb (by omega) (by omega)
  have k4 := hS.k4
  have z4 := hS.z4
  have g1 := fun x W h => dtop_any (mkM Q (-(p : Int))) (mkE Q (-(p : Int))) x W h (by omega) (by omega) (dv_zero n4)
  have g2 := fun x W h => dsign_any (mkM Q (-(p : Int))) (mkE Q (-(p : Int))) x W h (by omega)
  obtain ⟨bd1, bd2⟩ := top_rng n4 (by omega) (by omega)
  obtain ⟨tz, htz⟩ : ∃ z, topZ (mkM Q (-(p : Int))) (mkE Q (-(p : Int))) = z := ⟨_, rfl⟩
  rw [htz] at g1 hz2 bd1 bd2
  obtain ⟨sg9, hsg9⟩ : ∃ z, cmpI (mkM Q (-(p : Int))) 0 = z := ⟨_, rfl⟩
  rw [hsg9] at g2 hz1 hz2
  obtain ⟨bz, hbz⟩ : ∃ b, (sg9 == 0) = b := ⟨_, rfl⟩
  rw [hbz] at hz1 hz2
  have HN := Lib.hid (And.intro n2 n3)
  have HQ5 := Lib.hid n5
  obtain ⟨M, hM⟩ : ∃ z, mkM Q (-(p : Int)) = z := ⟨_, rfl⟩
  obtain ⟨E, hE⟩ : ∃ z, mkE Q (-(p : Int)) = z := ⟨_, rfl⟩
  rw [hM] at L0 HN HQ5 ⊢
  rw [hE] at HN HQ5 ⊢
  rw [hM, hE] at g1 g2
  have HZ := Lib.hid (And.intro hz1 hz2)
  have hzs : zs ≤ p + 1 := by rcases hS.zp with h9 | h9 <;> omega
  have w1 : IntKind.i64.wrap (-tz) = -tz := by rw [IntKind.wrap_i64]; omega
  have w2 : IntKind.i64.wrap ((p : Int) + 1) = (p : Int) + 1 := by rw [IntKind.wrap_i64]; omega
  have w3 : IntKind.i64.wrap (K : Int) = (K : Int) := by rw [IntKind.wrap_i64]; omega
  have hz0 : ¬ (zs : Int) = 0 := by omega
  have HS := Lib.hid hS
  have HP := Lib.hid (And.intro hp4 (And.intro hp (And.intro k4 (And.intro z4 hzs))))
  have G1 := Lib.hid g1
  have G2 := Lib.hid g2
  clear g1 g2 n1 n2 n3 n4 n5 hS hz1 hz2 hsg9 htz hM hE hQb hx hn hT bd1 bd2 k4 z4
  go_enter Tryz.func95, Tryz.ntmps95
  have L := ((L0.varD (w.heap.size) (by simp) (ng M) A (zl M) c E).varD (w.heap.size + 1) (by simp) false none 0 0 0)
  have c10 := L.tl.b0.c30
  have c11 := L.tl.b0.c31
  have c12 := L.tl.b0.c32
  (try go_wp2_with fail)
  refine (G1.out _ _ (isD_n (m := M) (e := E) (s := .slice A (zl M) c) (L.getN (by simp)))).mono ?_
  rintro e w1 ⟨rfl, be⟩
  clear c10 c11 c12
  replace L := L.step be
  clear be
  have c10 := L.tl.b0.c30
  have c11 := L.tl.b0.c31
  have c12 := L.tl.b0.c32
  (try go_wp2_with fail)
  refine (G2.out _ _ (isD_n (m := M) (e := E) (s := .slice A (zl M) c) (L.getN (by simp)))).mono ?_
  rintro e w2 ⟨rfl, be⟩
  clear c10 c11 c12
  replace L := L.step be
  clear be
  go_upto_if 14 with fail
  go_cut [5] from 15 to 17 (fun s5 wx => s5 = .int .i64 (zs : Int) ∧ Lq w wx [(.slice A (zl M) c, M.natAbs)] [] [] [(w.heap.size + 1, 26, #[.bool false, .slice none 0 0, .int .i64 0]), (w.heap.size, 26, #[.bool (ng M), .slice A (zl M) c, .int .i64 E])])
  case first =>
    cases bz
    · go_wp2_with fail
      go_meet
      exact ⟨by rw [HZ.out.2 trivial], L⟩
    · go_wp2_with fail
      go_meet
      exact ⟨by rw [HZ.out.1 trivial], L⟩
  case rest =>
    clear L HZ G1 G2 w1 hbz
    obtain ⟨rfl, L⟩ := hcut
    generalize wc = wd at *
    have hl9 := L.b0.lt
    replace L := L.varD wd.heap.size rfl false none 0 0 0
    have c00 := L.b0.c30
    have c01 := L.b0.c31
    have c02 := L.b0.c32
    go_wp2_with fail
    clear c00 c01 c02
    obtain ⟨gt, hgt⟩ : ∃ g9, wd.heap.size = g9 := ⟨_, rfl⟩
    rw [hgt] at L hl9 ⊢
    clear hgt
    go_loopw [7] (fun i wr => ∃ (j : Nat) (kz T N G : Int) (B : Option Addr) (d : Nat), i = .int .i64 kz ∧ (-1 ≤ kz ∧ kz ≤ (K : Int)) ∧ Lq w wr [(.slice B (zl N) d, N.natAbs), (.slice A (zl M) c, M.natAbs)] [] [] [(gt, 26, #[.bool (ng N), .slice B (zl N) d, .int .i64 G]), (w.heap.size + 1, 26, #[.bool false, .slice none 0 0, .int .i64 0]), (w.heap.size, 26, #[.bool (ng M), .slice A (zl M) c, .int .i64 E])] ∧ Hid (kz = (K : Int) - (j : Int) ∧ seT Q p zs K j = T ∧ mkM T (-((p : Int) - (((K + 1 - j) * zs : Nat) : Int))) = N ∧ mkE T (-((p : Int) - (((K + 1 - j) * zs : Nat) : Int))) = G)) (fun i _ => (intOf i + 1).toNat)
    case atStart =>
      have hx0 : -20000 ≤ -((p : Int) - (((K + 1 - 0) * zs : Nat) : Int)) ∧ -((p : Int) - (((K + 1 - 0) * zs : Nat) : Int)) ≤ 20000 := by
        obtain ⟨_, hp, k4, _, hzs⟩ := HP.out
        have h9 := HS.out.kz
        rw [Nat.sub_zero, Nat.add_mul, Nat.one_mul]
        omega
      refine ⟨0, (K : Int), 0, 0, 0, none, 0, by go_num, by omega, ?_, Lib.hid ⟨by omega, rfl, (nx_zero hx0).1, (nx_zero hx0).2⟩⟩
      have zz0 : zl 0 = 0 := zl_zero
      have nn0 : ng 0 = false := rfl
      rw [zz0, nn0]
      exact (L.n (IsN.zero _)).subx (by simp) (by simp)
    case round =>
      clear L
      obtain ⟨j, kz, T, N, G, B, d, rfl, hkz, L, HJ⟩ := hrel
      have hl0 := L.b0.lt
      obtain ⟨hp4, hp, k4, z4, hzs⟩ := HP.out
      rcases Int.lt_or_le kz 0 with hneg | hpos
      · have hd : ¬ 0 ≤ kz := by omega
        obtain ⟨hj, hTj, hM, hE⟩ := HJ.out
        have ej : j = K + 1 := by omega
        subst ej
        rw [show (p : Int) - (((K + 1 - (K + 1)) * zs : Nat) : Int) = (p : Int) by simp] at hM hE
        subst hTj
        clear HJ hj
        have L9 := L.subx (ns' := [(.slice B (zl N) d, N.natAbs)]) (bs' := [(w.heap.size + 1, 26, #[.bool false, .slice none 0 0, .int .i64 0]), (gt, 26, #[.bool (ng N), .slice B (zl N) d, .int .i64 G])]) (by simp) (by simp)
        clear L
        have L := L9
        clear L9
        have cel00 := L.b0.c30
        have f00 := L.b0.fr 0
        have cel01 := L.b0.c31
        have f01 := L.b0.fr 1
        have cel02 := L.b0.c32
        have f02 := L.b0.fr 2
        have cel10 := L.tl.b0.c30
        have cel11 := L.tl.b0.c31
        have cel12 := L.tl.b0.c32
        (try go_wp2_with fail)
        clear cel00 f00 cel01 f01 cel02 f02 cel10 cel11 cel12
        subst hM hE
        have LP := L.putD (by omega) (by first | (simp; done) | (simp; omega)) (ng (mkM (seT Q p zs K (K + 1)) (-(p : Int)))) B (zl (mkM (seT Q p zs K (K + 1)) (-(p : Int)))) d (mkE (seT Q p zs K (K + 1)) (-(p : Int)))
        have k0 := LP.b0.c30
        have k1 := LP.b0.c31
        have k2 := LP.b0.c32
        unfold put3 at k0 k1 k2
        exact bodyPost_ret (v := .agg #[.bool (ng (mkM (seT Q p zs K (K + 1)) (-(p : Int)))), .slice B (zl (mkM (seT Q p zs K (K + 1)) (-(p : Int)))) d, .int .i64 (mkE (seT Q p zs K (K + 1)) (-(p : Int)))]) (by simp [results, Tryz.results95, go_sem, k0, k1, k2]) rfl ⟨_, rfl, isD_n (LP.getN (by simp)), LP.below⟩
      · obtain ⟨kn, rfl⟩ : ∃ kn : Nat, kz = (kn : Int) := ⟨kz.toNat, by omega⟩
        obtain ⟨hj, hTj, hM, hE⟩ := HJ.out
        have hS := HS.out
        have hjk : j + kn = K := by omega
        have hI := seJ_all hS j (by omega)
        have hnx := se_nd hS hjk
        have hsx : seT Q p zs K (j + 1) = cutQ (dq (seT Q p zs K j) (-((p : Int) - (((K + 1 - j) * zs : Nat) : Int))) * dq Q (-(p : Int))) ((p - (K - j) * zs : Nat) : Int) + cutQ (1 / (2 * ((K - j : Nat) : Rat) + 1)) ((p - (K - j) * zs : Nat) : Int) := rfl
        have hxn : (p : Int) - (((K + 1 - (j + 1)) * zs : Nat) : Int) = ((p - (K - j) * zs : Nat) : Int) := by
          rw [show K + 1 - (j + 1) = K - j by omega]
          rw [show K - j = kn by omega] at hnx ⊢
          omega
        rw [show K - j = kn by omega] at hsx hxn hnx
        rw [hTj] at hI hsx
        obtain ⟨x, hx⟩ : ∃ x, (p : Int) - (((K + 1 - j) * zs : Nat) : Int) = x := ⟨_, rfl⟩
        rw [hx] at hI hM hE hsx
        have hky : kn * zs ≤ K * zs := Nat.mul_le_mul_right _ (by omega)
        have hkz9 := hS.kz
        obtain ⟨nd, hnd⟩ : ∃ nd : Nat, p - kn * zs = nd := ⟨_, rfl⟩
        rw [hnd] at hsx hxn hnx
        obtain ⟨F1, hF1⟩ : ∃ z, cutQ (dq T (-x) * dq Q (-(p : Int))) (nd : Int) = z := ⟨_, rfl⟩
        obtain ⟨F2, hF2⟩ : ∃ z, cutQ (1 / (2 * (kn : Rat) + 1)) (nd : Int) = z := ⟨_, rfl⟩
        rw [hF1, hF2] at hsx
        obtain ⟨hJ2, a1, a2⟩ := hI.step hS hjk hnx hF1 hF2
        obtain ⟨o1, o2, o3⟩ := odd_dq kn (by omega)
        obtain ⟨hx1, hx2⟩ := hI.rng hS
        obtain ⟨t1, t2, t3, _, t5⟩ := nx (x := -x) (hI.size hS) (by omega) (by omega)
        have hGb : -4500 ≤ mkE T (-x) ∧ mkE T (-x) ≤ 4500 := by
          rcases hI.tx with e9 | e9
          · rw [e9, (nx_zero (by omega)).2]; omega
          · omega
        rw [hM] at t2 t5
        rw [hE] at t3 t5 hGb
        obtain ⟨q2, q3⟩ := HN.out
        have q5 := HQ5.out
        have g3 := fun u v W h i (hW : Below w.heap.size w W) => lprod_any N G M E F1 nd u v W h i (by omega) (by omega) (by omega) (by omega) (by rw [t5, q5]; exact hF1) (a1.up (by omega)) (by omega) (HT.out W hW)
        obtain ⟨v1, v2, v3, v4, v5⟩ := nx (x := 0) o1 (by omega) (by omega)
        have g4 := fun W (hW : Below w.heap.size w W) => dof_any (2 * (kn : Int) + 1) W (by omega) (by omega) (HT.out W hW)
        have g5 := fun u W h (hW : Below w.heap.size w W) => lrec_any (mkM (2 * (kn : Int) + 1) 0) (mkE (2 * (kn : Int) + 1) 0) F2 nd u W h v4 (by omega) (by omega) (by rw [v5, o2]; exact o3) (by rw [v5, o2]; exact hF2) (by omega) (HT.out W hW)
        obtain ⟨b1, b2, b3, _, _⟩ := nx (x := -(nd : Int)) a1 (by omega) (by omega)
        obtain ⟨d1, d2, d3, _, _⟩ := nx (x := -(nd : Int)) a2 (by omega) (by omega)
        obtain ⟨s1, s2, s3⟩ := nx_add (x := -(nd : Int)) a1 a2 (by omega) (by omega)
        have g6 := fun u v W h i (hW : Below w.heap.size w W) => dadd_any (mkM F1 (-(nd : Int))) (mkE F1 (-(nd : Int))) (mkM F2 (-(nd : Int))) (mkE F2 (-(nd : Int))) u v W h i (by omega) (by omega) (by omega) (by omega) (HT.out W hW)
        rw [s1, s2, s3] at g6
        obtain ⟨T2, hT2⟩ : ∃ z, F1 + F2 = z := ⟨_, rfl⟩
        rw [hT2] at g6 hsx
        obtain ⟨N2, hN2⟩ : ∃ z, mkM T2 (-(nd : Int)) = z := ⟨_, rfl⟩
        obtain ⟨K2, hK2⟩ : ∃ z, mkE T2 (-(nd : Int)) = z := ⟨_, rfl⟩
        rw [hN2, hK2] at g6
        have HQ := Lib.hid (show (kn : Int) - 1 = (K : Int) - ((j + 1 : Nat) : Int) ∧ seT Q p zs K (j + 1) = T2 ∧ mkM T2 (-((p : Int) - (((K + 1 - (j + 1)) * zs : Nat) : Int))) = N2 ∧ mkE T2 (-((p : Int) - (((K + 1 - (j + 1)) * zs : Nat) : Int))) = K2 from ⟨by omega, hsx, by rw [hxn]; exact hN2, by rw [hxn]; exact hK2⟩)
        obtain ⟨y, hy⟩ : ∃ y : Nat, kn * zs = y := ⟨_, rfl⟩
        have hyi : (kn : Int) * (zs : Int) = (y : Int) := by rw [← hy]; push_cast; rfl
        have w4 : IntKind.i64.wrap ((kn : Int) * (zs : Int)) = (y : Int) := by rw [hyi, IntKind.wrap_i64]; omega
        have w5 : IntKind.i64.wrap ((p : Int) - (y : Int)) = (nd : Int) := by rw [IntKind.wrap_i64]; omega
        have w6 : IntKind.i64.wrap (2 * (kn : Int)) = 2 * (kn : Int) := by rw [IntKind.wrap_i64]; omega
        have w7 : IntKind.i64.wrap (2 * (kn : Int) + 1) = 2 * (kn : Int) + 1 := by rw [IntKind.wrap_i64]; omega
        have w8 : IntKind.i64.wrap ((kn : Int) - 1) = (kn : Int) - 1 := by rw [IntKind.wrap_i64]; omega
        clear hGb hj hI hM hE hS hky hkz9 hF1 hF2 hJ2 hTj hsx hxn hnx hx a1 a2 o1 o2 o3 hx1 hx2 t1 t2 t3 t5 q2 q3 q5 v1 v2 v3 v4 v5 b1 b2 b3 d1 d2 d3 s1 s2 s3 hT2 hN2 hK2 HJ hy hyi hnd
        generalize mkM (2 * (kn : Int) + 1) 0 = Mo at *
        generalize mkE (2 * (kn : Int) + 1) 0 = Eo at *
        generalize mkM F1 (-(nd : Int)) = M3 at *
        generalize mkE F1 (-(nd : Int)) = E3 at *
        generalize mkM F2 (-(nd : Int)) = M5 at *
        generalize mkE F2 (-(nd : Int)) = E5 at *
        have G3 := Lib.hid g3
        have G4 := Lib.hid g4
        have G5 := Lib.hid g5
        have G6 := Lib.hid g6
        clear g3 g4 g5 g6
        have cel00 := L.b0.c30
        have f00 := L.b0.fr 0
        have cel01 := L.b0.c31
        have f01 := L.b0.fr 1
        have cel02 := L.b0.c32
        have f02 := L.b0.fr 2
        have cel20 := L.tl.tl.b0.c30
        have cel21 := L.tl.tl.b0.c31
        have cel22 := L.tl.tl.b0.c32
        (try go_wp2_with fail)
        refine (G3.out _ _ _ (isD_n (m := N) (e := G) (s := .slice B (zl N) d) (L.getN (by simp))) (isD_n (m := M) (e := E) (s := .slice A (zl M) c) (L.getN (by simp))) L.below).mono ?_
        rintro e w61 ⟨v9, rfl, iz, be⟩
        clear cel00 f00 cel01 f01 cel02 f02 cel20 cel21 cel22
        obtain ⟨A3, c3, rfl, _, in9⟩ := iz.form
        replace L := (L.step be).n in9
        clear be iz in9
        (try go_wp2_with fail)
        refine (G4.out _ L.below).mono ?_
        rintro e w62 ⟨v9, rfl, iz, be⟩
        obtain ⟨A4, c4, rfl, _, in9⟩ := iz.form
        replace L := (L.step be).n in9
        clear be iz in9
        (try go_wp2_with fail)
        refine (G5.out _ _ (isD_n (m := Mo) (e := Eo) (s := .slice A4 (zl Mo) c4) (L.getN (by simp))) L.below).mono ?_
        rintro e w63 ⟨v9, rfl, iz, be⟩
        obtain ⟨A5, c5, rfl, _, in9⟩ := iz.form
        replace L := (L.step be).n in9
        clear be iz in9
        (try go_wp2_with fail)
        refine (G6.out _ _ _ (isD_n (m := M3) (e := E3) (s := .slice A3 (zl M3) c3) (L.getN (by simp))) (isD_n (m := M5) (e := E5) (s := .slice A5 (zl M5) c5) (L.getN (by simp))) L.below).mono ?_
        rintro e w64 ⟨v9, rfl, iz, be⟩
        obtain ⟨A6, c6, rfl, _, in9⟩ := iz.form
        replace L := (L.step be).n in9
        clear be iz in9
        have cel00 := L.b0.c30
        have f00 := L.b0.fr 0
        have cel01 := L.b0.c31
        have f01 := L.b0.fr 1
        have cel02 := L.b0.c32
        have f02 := L.b0.fr 2
        have P := L.putD (by omega) (by simp; omega) (ng N2) A6 (zl N2) c6 K2
        unfold put3 at P
        go_wp2_with fail
        go_roundw
        case rel => exact ⟨j + 1, (kn : Int) - 1, T2, N2, K2, A6, c6, by go_num, by omega, P.subx (by simp) (by simp), HQ⟩
        case measure => simp [intOf]

set_option maxHeartbeats 16000000 in
theorem lsplit_any (m e : Int) (vx : Value) (w : World) (hx : IsD w vx m e) (hm : 0 < m) (hv : Dv m e) (lm : zl m ≤ 400) (he : -70000 ≤ e ∧ e ≤ 70000) (hT : Tab w) :
    Calls Tryz.prog 28 #[vx] w (RetSK w (spK m e) m (spE m) 0) := by
  obtain ⟨A, c, rfl, _, hn⟩ := hx.form
  have L0 := (Lq.mk0 w).n hn
  obtain ⟨n, hn9⟩ : ∃ n, spN m = n := ⟨_, rfl⟩
  have hnb := spN_le m
  rw [hn9] at hnb
  have g1 := fun x W h => dvalid_d m e x W h (by omega)
  have hval : (if m = 0 then decide (e = 0) else fits8 m e) = true := by
    rcases hv with ⟨h9, _⟩ | ⟨_, h9⟩
    · omega
    · rw [if_neg (by omega)]; exact h9
  rw [hval] at g1
  have g2 := fun x W h => dsign_any m e x W h (by omega)
  rw [cmpI_gt hm] at g2
  have g3 := fun x W h => dtop_any m e x W h (by omega) (by omega) (by omega)
  have htop : topZ m e = e + (n : Int) := by
    unfold topZ
    rw [if_neg (by omega), ← hn9]
    unfold spN
    omega
  rw [htop] at g3
  obtain ⟨a1, a2, a3⟩ := dv_mk (x := -(n : Int)) (dv_at hv hm (by omega)) (by omega) (by omega)
  have g4 := fun x W h (hW : Below w.heap.size w W) => dmake_any m (-(n : Int)) x W h (by omega) (hT.mono hW)
  rw [a1, a2, a3] at g4
  have z3 : zl 3 ≤ 1 := len_le1 (show 3 < 4294967296 by omega)
  have dv3 : ∀ x : Int, -60000 ≤ x ∧ x ≤ 60000 → Dv 3 x := fun x hx => dv_at (m := 3) (e := 0) (Or.inr ⟨by decide, by decide +kernel⟩) (by decide) hx
  obtain ⟨b1, b2, b3⟩ := dv_mk (x := 0) (dv3 0 (by omega)) (by omega) (by omega)
  have g5 := fun W (hW : Below w.heap.size w W) => dof_any 3 W (by omega) (by omega) (hT.mono hW)
  rw [b2, b3] at g5
  obtain ⟨d1, d2, d3⟩ := dv_mk (x := 0 + -2) (dv3 _ (by omega)) (by omega) (by omega)
  have g6 := fun x W h (hW : Below w.heap.size w W) => dshift_any 3 0 (-2) x W h (by omega) (by omega) (by omega) (hT.mono hW)
  rw [d1, d2, d3, show (0 : Int) + -2 = -2 from rfl] at g6
  have g7 := fun x y W h j => dcmp_any m (-(n : Int)) 3 (-2) x y W h j (by omega) (by omega) (by omega) (by omega)
  have hlt := dcm_lt m (-(n : Int)) 3 (-2)
  rw [show cmpI (m * 2 ^ (-(n : Int) - min (-(n : Int)) (-2)).toNat) (3 * 2 ^ (-2 - min (-(n : Int)) (-2)).toNat) = dcm m (-(n : Int)) 3 (-2) from rfl] at g7
  have hlt2 : dq m (-(n : Int)) < dq 3 (-2) ↔ 4 * m < 3 * 2 ^ n := by
    have e1 : dq m (-(n : Int)) = dq (4 * m) (-(n : Int) - 2) := by
      refine dq_eq (F := -(n : Int) - 2) ?_ (by omega) (by omega)
      rw [show (-(n : Int) - (-(n : Int) - 2)).toNat = 2 by omega, show (-(n : Int) - 2 - (-(n : Int) - 2)).toNat = 0 by omega]
      omega
    have e2 : dq 3 (-2) = dq (3 * 2 ^ n) (-(n : Int) - 2) := by
      refine dq_eq (F := -(n : Int) - 2) ?_ (by omega) (by omega)
      rw [show (-2 - (-(n : Int) - 2)).toNat = n by omega, show (-(n : Int) - 2 - (-(n : Int) - 2)).toNat = 0 by omega]
      simp
    rw [e1, e2]
    constructor
    · intro h
      refine Int.not_le.1 fun hle => Rat.not_le.2 h ((dq_le_iff _ _ _).2 hle)
    · intro h
      refine Rat.not_le.1 fun hle => ?_
      have := (dq_le_iff _ _ _).1 hle
      omega
  rw [hlt2] at hlt
  generalize dcm m (-(n : Int)) 3 (-2) = cm at *
  obtain ⟨k1, k2, k3⟩ := dv_mk (x := -(n : Int) + 1) (dv_at hv hm (by omega)) (by omega) (by omega)
  have g8 := fun x W h (hW : Below w.heap.size w W) => dshift_any m (-(n : Int)) 1 x W h (by omega) (by omega) (by omega) (hT.mono hW)
  rw [k1, k2, k3] at g8
  have w1 : IntKind.i64.wrap (e - (e + (n : Int))) = -(n : Int) := by rw [IntKind.wrap_i64]; omega
  have w2 : IntKind.i64.wrap (e + (n : Int) - 1) = e + (n : Int) - 1 := by rw [IntKind.wrap_i64]; omega
  have hres : (cm < 0 → spK m e = e + (n : Int) - 1 ∧ spE m = -(n : Int) + 1) ∧ (0 ≤ cm → spK m e = e + (n : Int) ∧ spE m = -(n : Int)) := by
    unfold spK spE spB
    rw [hn9]
    refine ⟨fun h => ?_, fun h => ?_⟩
    · rw [decide_eq_true (hlt.1 h), if_pos rfl, if_pos rfl]; omega
    · rw [decide_eq_false (fun h9 => by have := hlt.2 h9; omega), if_neg (by decide), if_neg (by decide)]; omega
  have HR := Lib.hid hres
  clear hres hlt hlt2 k1 k2 k3 a1 a2 a3 b1 b2 b3 d1 d2 d3 z3 dv3 htop hval hnb hn9 hx hm hv lm hn hT he
  have G1 := Lib.hid g1
  have G2 := Lib.hid g2
  have G3 := Lib.hid g3
  have G4 := Lib.hid g4
  have G5 := Lib.hid g5
  have G6 := Lib.hid g6
  have G7 := Lib.hid g7
  have G8 := Lib.hid g8
  clear g1 g2 g3 g4 g5 g6 g7 g8
  rcases Int.lt_or_le cm 0 with hcm | hcm
  · have d9 : decide (cm < 0) = true := decide_eq_true hcm
    obtain ⟨r1, r2⟩ := HR.out.1 hcm
    rw [r1, r2]
    clear HR r1 r2
    obtain ⟨e9, he9⟩ : ∃ z, -(n : Int) + 1 = z := ⟨_, rfl⟩
    obtain ⟨k9, hk9⟩ : ∃ z, e + (n : Int) - 1 = z := ⟨_, rfl⟩
    have w3 : IntKind.i64.wrap (e + (n : Int) - 1) = k9 := w2.trans hk9
    have g8 := G8.out
    rw [he9] at g8 ⊢
    rw [hk9]
    clear G8 w2 hk9 he9
    have G8 := Lib.hid g8
    clear g8
    go_enter Tryz.func28, Tryz.ntmps28
    have L := ((L0.varD (w.heap.size) (by simp) (ng m) A (zl m) c e).varD (w.heap.size + 1) (by simp) false none 0 0 0)
    have c10 := L.tl.b0.c30
    have c11 := L.tl.b0.c31
    have c12 := L.tl.b0.c32
    (try go_wp2_with fail)
    refine (G1.out _ _ (isD_n (m := m) (e := e) (s := .slice A (zl m) c) (L.getN (by simp)))).mono ?_
    rintro e w1 ⟨rfl, be⟩
    clear c10 c11 c12
    replace L := L.step be
    clear be
    have c10 := L.tl.b0.c30
    have c11 := L.tl.b0.c31
    have c12 := L.tl.b0.c32
    (try go_wp2_with fail)
    refine (G2.out _ _ (isD_n (m := m) (e := e) (s := .slice A (zl m) c) (L.getN (by simp)))).mono ?_
    rintro e w2 ⟨rfl, be⟩
    clear c10 c11 c12
    replace L := L.step be
    clear be
    have c10 := L.tl.b0.c30
    have c11 := L.tl.b0.c31
    have c12 := L.tl.b0.c32
    (try go_wp2_with fail)
    refine (G3.out _ _ (isD_n (m := m) (e := e) (s := .slice A (zl m) c) (L.getN (by simp)))).mono ?_
    rintro e w3 ⟨rfl, be⟩
    clear c10 c11 c12
    replace L := L.step be
    clear be
    have c10 := L.tl.b0.c30
    have c11 := L.tl.b0.c31
    have c12 := L.tl.b0.c32
    (try go_wp2_with fail)
    refine (G4.out _ _ ⟨_, rfl, L.getN (by simp)⟩ L.below).mono ?_
    rintro e w4 ⟨v9, rfl, iz, be⟩
    clear c10 c11 c12
    obtain ⟨A1, c1, rfl, _, in9⟩ := iz.form
    replace L := (L.step be).n in9
    clear be iz in9
    have hl9 := L.b0.lt
    replace L := L.varD w4.heap.size rfl (ng m) A1 (zl m) c1 (-(n : Int))
    have c00 := L.b0.c30
    have c01 := L.b0.c31
    have c02 := L.b0.c32
    go_wp2_with fail
    clear c00 c01 c02
    obtain ⟨g1, hg1⟩ : ∃ g9, w4.heap.size = g9 := ⟨_, rfl⟩
    rw [hg1] at L hl9 ⊢
    clear hg1
    have hl_g1 := hl9
    clear hl9
    refine (G5.out _ L.below).mono ?_
    rintro e w5 ⟨v9, rfl, iz, be⟩
    obtain ⟨A2, c2, rfl, _, in9⟩ := iz.form
    replace L := (L.step be).n in9
    clear be iz in9
    (try go_wp2_with fail)
    refine (G6.out _ _ (isD_n (m := 3) (e := 0) (s := .slice A2 (zl 3) c2) (L.getN (by simp))) L.below).mono ?_
    rintro e w6 ⟨v9, rfl, iz, be⟩
    obtain ⟨A3, c3, rfl, _, in9⟩ := iz.form
    replace L := (L.step be).n in9
    clear be iz in9
    have hl9 := L.b0.lt
    replace L := L.varD w6.heap.size rfl (ng 3) A3 (zl 3) c3 (-2)
    have c00 := L.b0.c30
    have c01 := L.b0.c31
    have c02 := L.b0.c32
    have c10 := L.tl.b0.c30
    have c11 := L.tl.b0.c31
    have c12 := L.tl.b0.c32
    go_wp2_with fail
    clear c00 c01 c02 c10 c11 c12
    obtain ⟨g2, hg2⟩ : ∃ g9, w6.heap.size = g9 := ⟨_, rfl⟩
    rw [hg2] at L hl9 ⊢
    clear hg2
    have hl_g2 := hl9
    clear hl9
    refine (G7.out _ _ _ (isD_n (m := m) (e := (-(n : Int))) (s := .slice A1 (zl m) c1) (L.getN (by simp))) (isD_n (m := 3) (e := (-2)) (s := .slice A3 (zl 3) c3) (L.getN (by simp)))).mono ?_
    rintro e w7 ⟨rfl, be⟩
    replace L := L.step be
    clear be
    have c10 := L.tl.b0.c30
    have c11 := L.tl.b0.c31
    have c12 := L.tl.b0.c32
    (try go_wp2_with fail)
    refine (G8.out _ _ (isD_n (m := m) (e := (-(n : Int))) (s := .slice A1 (zl m) c1) (L.getN (by simp))) L.below).mono ?_
    rintro e w8 ⟨v9, rfl, iz, be⟩
    clear c10 c11 c12
    obtain ⟨A4, c4, rfl, _, in9⟩ := iz.form
    replace L := (L.step be).n in9
    clear be iz in9
    replace L := L.swap
    have c00 := L.b0.c30
    have f00 := L.b0.fr 0
    have c01 := L.b0.c31
    have f01 := L.b0.fr 1
    have c02 := L.b0.c32
    have f02 := L.b0.fr 2
    have P := L.putD (by omega) (by simp; omega) (ng m) A4 (zl m) c4 e9
    have p0 := P.b0.c30
    have p1 := P.b0.c31
    have p2 := P.b0.c32
    unfold put3 at p0 p1 p2 P
    go_wp2_with fail
    replace L := P
    clear P p0 p1 p2
    clear c00 f00 c01 f01 c02 f02
    have n9 : w.heap.size + 1 ≠ g1 := by omega
    have L9 := L.subx (ns' := [(.slice A4 (zl m) c4, m.natAbs)]) (bs' := [(w.heap.size + 1, 26, #[.bool false, .slice none 0 0, .int .i64 0]), (g1, 26, #[.bool (ng m), .slice A4 (zl m) c4, .int .i64 e9])]) (by simp) (by simp)
    clear L
    have L := L9
    clear L9
    have c00 := L.b0.c30
    have f00 := L.b0.fr 0
    have c01 := L.b0.c31
    have f01 := L.b0.fr 1
    have c02 := L.b0.c32
    have f02 := L.b0.fr 2
    have c10 := L.tl.b0.c30
    have c11 := L.tl.b0.c31
    have c12 := L.tl.b0.c32
    (try go_wp2_with fail)
    go_region
    all_goals (try go_wp2_with fail)
    clear c00 f00 c01 f01 c02 f02 c10 c11 c12
    all_goals
      have LP := (L.putD (by omega) (by first | (simp; done) | (simp; omega)) (ng m) A4 (zl m) c4 e9).drew
      unfold put3 at LP
      have k0 := LP.b0.c30
      have k1 := LP.b0.c31
      have k2 := LP.b0.c32
      exact bodyPost_ret (v := .tuple #[.int .i64 k9, .agg #[.bool (ng m), .slice A4 (zl m) c4, .int .i64 e9], .int .i64 0]) (by simp [results, Tryz.results28, go_sem, k0, k1, k2]) rfl ⟨_, rfl, isD_n (LP.getN (by simp)), LP.below⟩
  · have d9 : decide (cm < 0) = false := decide_eq_false (by omega)
    obtain ⟨r1, r2⟩ := HR.out.2 hcm
    rw [r1, r2]
    clear HR r1 r2
    go_enter Tryz.func28, Tryz.ntmps28
    have L := ((L0.varD (w.heap.size) (by simp) (ng m) A (zl m) c e).varD (w.heap.size + 1) (by simp) false none 0 0 0)
    have c10 := L.tl.b0.c30
    have c11 := L.tl.b0.c31
    have c12 := L.tl.b0.c32
    (try go_wp2_with fail)
    refine (G1.out _ _ (isD_n (m := m) (e := e) (s := .slice A (zl m) c) (L.getN (by simp)))).mono ?_
    rintro e w1 ⟨rfl, be⟩
    clear c10 c11 c12
    replace L := L.step be
    clear be
    have c10 := L.tl.b0.c30
    have c11 := L.tl.b0.c31
    have c12 := L.tl.b0.c32
    (try go_wp2_with fail)
    refine (G2.out _ _ (isD_n (m := m) (e := e) (s := .slice A (zl m) c) (L.getN (by simp)))).mono ?_
    rintro e w2 ⟨rfl, be⟩
    clear c10 c11 c12
    replace L := L.step be
    clear be
    have c10 := L.tl.b0.c30
    have c11 := L.tl.b0.c31
    have c12 := L.tl.b0.c32
    (try go_wp2_with fail)
    refine (G3.out _ _ (isD_n (m := m) (e := e) (s := .slice A (zl m) c) (L.getN (by simp)))).mono ?_
    rintro e w3 ⟨rfl, be⟩
    clear c10 c11 c12
    replace L := L.step be
    clear be
    have c10 := L.tl.b0.c30
    have c11 := L.tl.b0.c31
    have c12 := L.tl.b0.c32
    (try go_wp2_with fail)
    refine (G4.out _ _ ⟨_, rfl, L.getN (by simp)⟩ L.below).mono ?_
    rintro e w4 ⟨v9, rfl, iz, be⟩
    clear c10 c11 c12
    obtain ⟨A1, c1, rfl, _, in9⟩ := iz.form
    replace L := (L.step be).n in9
    clear be iz in9
    have hl9 := L.b0.lt
    replace L := L.varD w4.heap.size rfl (ng m) A1 (zl m) c1 (-(n : Int))
    have c00 := L.b0.c30
    have c01 := L.b0.c31
    have c02 := L.b0.c32
    go_wp2_with fail
    clear c00 c01 c02
    obtain ⟨g1, hg1⟩ : ∃ g9, w4.heap.size = g9 := ⟨_, rfl⟩
    rw [hg1] at L hl9 ⊢
    clear hg1
    have hl_g1 := hl9
    clear hl9
    refine (G5.out _ L.below).mono ?_
    rintro e w5 ⟨v9, rfl, iz, be⟩
    obtain ⟨A2, c2, rfl, _, in9⟩ := iz.form
    replace L := (L.step be).n in9
    clear be iz in9
    (try go_wp2_with fail)
    refine (G6.out _ _ (isD_n (m := 3) (e := 0) (s := .slice A2 (zl 3) c2) (L.getN (by simp))) L.below).mono ?_
    rintro e w6 ⟨v9, rfl, iz, be⟩
    obtain ⟨A3, c3, rfl, _, in9⟩ := iz.form
    replace L := (L.step be).n in9
    clear be iz in9
    have hl9 := L.b0.lt
    replace L := L.varD w6.heap.size rfl (ng 3) A3 (zl 3) c3 (-2)
    have c00 := L.b0.c30
    have c01 := L.b0.c31
    have c02 := L.b0.c32
    have c10 := L.tl.b0.c30
    have c11 := L.tl.b0.c31
    have c12 := L.tl.b0.c32
    go_wp2_with fail
    clear c00 c01 c02 c10 c11 c12
    obtain ⟨g2, hg2⟩ : ∃ g9, w6.heap.size = g9 := ⟨_, rfl⟩
    rw [hg2] at L hl9 ⊢
    clear hg2
    have hl_g2 := hl9
    clear hl9
    refine (G7.out _ _ _ (isD_n (m := m) (e := (-(n : Int))) (s := .slice A1 (zl m) c1) (L.getN (by simp))) (isD_n (m := 3) (e := (-2)) (s := .slice A3 (zl 3) c3) (L.getN (by simp)))).mono ?_
    rintro e w7 ⟨rfl, be⟩
    replace L := L.step be
    clear be
    replace L := L.swap
    have n9 : w.heap.size + 1 ≠ g1 := by omega
    have L9 := L.subx (ns' := [(.slice A1 (zl m) c1, m.natAbs)]) (bs' := [(w.heap.size + 1, 26, #[.bool false, .slice none 0 0, .int .i64 0]), (g1, 26, #[.bool (ng m), .slice A1 (zl m) c1, .int .i64 (-(n : Int))])]) (by simp) (by simp)
    clear L
    have L := L9
    clear L9
    have c00 := L.b0.c30
    have f00 := L.b0.fr 0
    have c01 := L.b0.c31
    have f01 := L.b0.fr 1
    have c02 := L.b0.c32
    have f02 := L.b0.fr 2
    have c10 := L.tl.b0.c30
    have c11 := L.tl.b0.c31
    have c12 := L.tl.b0.c32
    (try go_wp2_with fail)
    go_region
    all_goals (try go_wp2_with fail)
    clear c00 f00 c01 f01 c02 f02 c10 c11 c12
    all_goals
      have LP := (L.putD (by omega) (by first | (simp; done) | (simp; omega)) (ng m) A1 (zl m) c1 (-(n : Int))).drew
      unfold put3 at LP
      have k0 := LP.b0.c30
      have k1 := LP.b0.c31
      have k2 := LP.b0.c32
      exact bodyPost_ret (v := .tuple #[.int .i64 (e + (n : Int)), .agg #[.bool (ng m), .slice A1 (zl m) c1, .int .i64 (-(n : Int))], .int .i64 0]) (by simp [results, Tryz.results28, go_sem, k0, k1, k2]) rfl ⟨_, rfl, isD_n (LP.getN (by simp)), LP.below⟩


end Go.Proofs.YtmlddkiccjpoeaaGreatDoor
