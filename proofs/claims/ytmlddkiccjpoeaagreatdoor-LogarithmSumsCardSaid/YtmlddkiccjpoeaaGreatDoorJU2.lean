/- Joined: ArPB, ArApp, ArPD, ArPE, ArPF, ArDv, LnL, IvPD, IvPC, ArPHp, CpA (what the law leans on). -/
import Derived.Test.YtmlddkiccjpoeaaGreatDoorBaseEU
import Derived.Test.YtmlddkiccjpoeaaGreatDoorBaseVU
import Derived.Test.YtmlddkiccjpoeaaGreatDoorBaseGU
import Derived.Test.YtmlddkiccjpoeaaGreatDoorBaseWU
import Derived.Test.YtmlddkiccjpoeaaGreatDoorBaseXU
import Derived.Test.YtmlddkiccjpoeaaGreatDoorGrPCU
import Derived.Test.YtmlddkiccjpoeaaGreatDoorBaseZU
import Derived.Test.YtmlddkiccjpoeaaGreatDoorBaseUU
import Derived.Test.YtmlddkiccjpoeaaGreatDoorJU1
import Derived.Deep.Cut
import Derived.Deep.CutRange
import Derived.Deep.DrawnRows
import Derived.Deep.RegionHeld3
import Derived.Deep.RegionWith
import Derived.Laws.AppendOwn
import Derived.Laws.OwnMore
import Derived.Lib.SliceRun
import Derived.Lib.SmallJoins
namespace Go.Proofs.YtmlddkiccjpoeaaGreatDoor
open Go.RowKit
set_option linter.unusedVariables false
set_option linter.unusedSimpArgs false
set_option maxRecDepth 100000
attribute [local go_sem ↓] Go.wp_at_zero Go.wp_at_succ

set_option maxHeartbeats 16000000 in
theorem aenclD_any (m e n f k : Int) (vx vy : Value) (w : World) (hx : IsD w vx m e) (hy : IsD w vy n f) (lm : zl m ≤ 500) (ln : zl n ≤ 500) (he : -10000 ≤ e ∧ e ≤ 10000) (hf : -10000 ≤ f ∧ f ≤ 10000) (hw : workB k = true) (hT : Tab w) :
    Calls Tryz.prog 119 #[vx, vy, .int .i64 k, .func (.func 103) #[] #[], .func (.func 104) #[] #[]] w (RetEn w (dq m e) (dq n f) k) := by
  obtain ⟨wp, wk1, wk2⟩ := work_perm hw
  obtain ⟨A, c, rfl, _, hn1⟩ := hx.form
  obtain ⟨B, d, rfl, _, hn2⟩ := hy.form
  have L0 := ((Lq.mk0 w).n hn2).n hn1
  have y4 := zl_neg n
  have y1 := zl_cutD m e k
  have y2 := zl_cutD (-n) f k
  rw [dq_neg] at y2
  have f1 := fun v W h (hW : Below w.heap.size w W) => gfloor_any m e k v W h (by omega) (by omega) (by omega) (by omega) (hT.mono hW)
  have f2 := fun v W h (hW : Below w.heap.size w W) => gceil_any n f k v W h (by omega) (by omega) (by omega) (by omega) (hT.mono hW)
  obtain ⟨lo, hlo⟩ : ∃ lo, dq m e = lo := ⟨_, rfl⟩
  obtain ⟨hi, hhi⟩ : ∃ hi, dq n f = hi := ⟨_, rfl⟩
  rw [hlo] at f1 y1 ⊢
  rw [hhi] at f2 y2 ⊢
  have y3 := zl_neg (cutQ (-hi) k)
  have y5 := zl_mk (cutQ lo k) (-k)
  have y6 := zl_mk (-(cutQ (-hi) k)) (-k)
  rw [(g_yes wp (cutQ lo k)).1, (g_yes wp (cutQ lo k)).2.1, (g_yes wp (cutQ lo k)).2.2] at f1
  rw [(g_yes wp (-(cutQ (-hi) k))).1, (g_yes wp (-(cutQ (-hi) k))).2.1, (g_yes wp (-(cutQ (-hi) k))).2.2] at f2
  have hsm := Lib.hid (fun (q1 : mkR (cutQ lo k) (-k) = 0) (q2 : mkR (-(cutQ (-hi) k)) (-k) = 0) v W h => (show Calls Tryz.prog 39 #[v] W (RetB W (enB lo hi k)) from asmall_any (enM lo k) (enE lo k) (upM hi k) (upE hi k) v W h (by unfold enM; omega) (by unfold upM; omega) (by have := dv_bound (mk_ok q1); unfold enE; omega) (by have := dv_bound (mk_ok q2); unfold upE; omega) (mk_ok q1) (mk_ok q2)))
  have HRT := Lib.hid (show RetEn w lo hi k = if mkR (cutQ lo k) (-k) = 0 ∧ mkR (-(cutQ (-hi) k)) (-k) = 0 ∧ enB lo hi k = true then RetIE w (enM lo k) (enE lo k) (upM hi k) (upE hi k) 0 else RetIE w 0 0 0 0 3 from by unfold RetEn; rw [if_pos hw])
  unfold enM enE upM upE at hsm HRT
  have H1 := Lib.hid f1
  have H2 := Lib.hid f2
  clear f1 f2 hlo hhi y1 y2 y3 y4 y5 y6 wp hx hy hn1 hn2 lm ln he hf hw hT wk1 wk2
  generalize mkR (cutQ lo k) (-k) = R1 at *
  generalize mkR (-(cutQ (-hi) k)) (-k) = R2 at *
  generalize mkM (cutQ lo k) (-k) = M at *
  generalize mkE (cutQ lo k) (-k) = E at *
  generalize mkM (-(cutQ (-hi) k)) (-k) = N at *
  generalize mkE (-(cutQ (-hi) k)) (-k) = G at *
  generalize enB lo hi k = b at *
  cases hr1 : decide (R1 = 0)
  · replace hr1 := of_decide_eq_false hr1
    have e1 : (R1 != 0) = true := by simpa using hr1
    have e2 : (R1 == 0) = false := by simpa using hr1
    clear hsm
    go_enter Tryz.func119, Tryz.ntmps119
    go_wp2_with fail
    have L := (((L0.varD (w.heap.size) (by simp) (ng m) A (zl m) c e).varD (w.heap.size + 1) (by simp) (ng n) B (zl n) d f).varI (w.heap.size + 2) (by simp) false none 0 0 0 false none 0 0 0)
    obtain ⟨gr, hgr⟩ : ∃ gr, w.heap.size + 1 + 1 = gr := ⟨_, rfl⟩
    have hgr2 : w.heap.size + 2 = gr := hgr
    rw [hgr2] at L
    rw [hgr]
    have hgw : w.heap.size + 1 < gr := by omega
    clear hgr hgr2
    have cel20 := L.tl.tl.b0.c30
    have cel21 := L.tl.tl.b0.c31
    have cel22 := L.tl.tl.b0.c32
    go_wp2_with fail
    refine (H1.out _ _ (isD_n (m := m) (e := e) (s := .slice A (zl m) c) (L.getN (v := .slice A (zl m) c) (x := (m).natAbs) (by simp))) L.below).mono ?_
    rintro e w1 ⟨vv, rfl, id, be⟩
    clear cel20 cel21 cel22
    obtain ⟨A8, c8, rfl, _, in9⟩ := id.form
    replace L := (L.step be).n in9
    clear be id in9
    have hlg8 := L.b0.lt
    replace L := L.varD w1.heap.size rfl (ng M) A8 (zl M) c8 E
    have cel20 := L.tl.tl.b0.c30
    have cel21 := L.tl.tl.b0.c31
    have cel22 := L.tl.tl.b0.c32
    go_wp2_with fail
    obtain ⟨g8, hg⟩ : ∃ g, w1.heap.size = g := ⟨_, rfl⟩
    rw [hg] at L hlg8 ⊢
    clear hg
    refine (H2.out _ _ (isD_n (m := n) (e := f) (s := .slice B (zl n) d) (L.getN (v := .slice B (zl n) d) (x := (n).natAbs) (by simp))) L.below).mono ?_
    rintro e w2 ⟨vv, rfl, id, be⟩
    clear cel20 cel21 cel22
    obtain ⟨A9, c9, rfl, _, in9⟩ := id.form
    replace L := (L.step be).n in9
    clear be id in9
    have hl9 := L.b0.lt
    replace L := L.varD w2.heap.size rfl (ng N) A9 (zl N) c9 G
    have cel00 := L.b0.c30
    have cel01 := L.b0.c31
    have cel02 := L.b0.c32
    have cel10 := L.tl.b0.c30
    have cel11 := L.tl.b0.c31
    have cel12 := L.tl.b0.c32
    replace L := L.varI (w2.heap.size + 1) (by simp) (ng M) A8 (zl M) c8 E (ng N) A9 (zl N) c9 G
    have cem00 := L.b0.c60
    have cem01 := L.b0.c61
    have cem02 := L.b0.c62
    have cem03 := L.b0.c63
    have cem04 := L.b0.c64
    have cem05 := L.b0.c65
    have R := L.pick [(gr, 28, #[.bool false, .slice none 0 0, .int .i64 0, .bool false, .slice none 0 0, .int .i64 0])] (by simp)
    have r0 := R.b0.c60
    have s0 := R.b0.fr 0
    have r1 := R.b0.c61
    have s1 := R.b0.fr 1
    have r2 := R.b0.c62
    have s2 := R.b0.fr 2
    have r3 := R.b0.c63
    have s3 := R.b0.fr 3
    have r4 := R.b0.c64
    have s4 := R.b0.fr 4
    have r5 := R.b0.c65
    have s5 := R.b0.fr 5
    go_wp2_with fail
    have LP := R.putI (by omega) (by simp) false none 0 0 0 false none 0 0 0
    have k0' := LP.b0.c60
    have k1' := LP.b0.c61
    have k2' := LP.b0.c62
    have k3' := LP.b0.c63
    have k4' := LP.b0.c64
    have k5' := LP.b0.c65
    unfold put6 at k0' k1' k2' k3' k4' k5'
    exact bodyPost_ret (v := .tuple #[.agg #[.bool false, .slice none 0 0, .int .i64 0, .bool false, .slice none 0 0, .int .i64 0], .int .i64 3]) (by simp [results, Tryz.results119, go_sem, k0', k1', k2', k3', k4', k5']) rfl (by rw [HRT.out, if_neg (fun h => hr1 h.1)]; exact ⟨_, rfl, isI_zero _, LP.below⟩)
  · obtain rfl := of_decide_eq_true hr1
    have HR1 := Lib.hid (rfl : (0 : Int) = 0)
    clear hr1
    cases hr2 : decide (R2 = 0)
    · replace hr2 := of_decide_eq_false hr2
      have e1 : (R2 != 0) = true := by simpa using hr2
      have e2 : (R2 == 0) = false := by simpa using hr2
      clear hsm
      go_enter Tryz.func119, Tryz.ntmps119
      go_wp2_with fail
      have L := (((L0.varD (w.heap.size) (by simp) (ng m) A (zl m) c e).varD (w.heap.size + 1) (by simp) (ng n) B (zl n) d f).varI (w.heap.size + 2) (by simp) false none 0 0 0 false none 0 0 0)
      obtain ⟨gr, hgr⟩ : ∃ gr, w.heap.size + 1 + 1 = gr := ⟨_, rfl⟩
      have hgr2 : w.heap.size + 2 = gr := hgr
      rw [hgr2] at L
      rw [hgr]
      have hgw : w.heap.size + 1 < gr := by omega
      clear hgr hgr2
      have cel20 := L.tl.tl.b0.c30
      have cel21 := L.tl.tl.b0.c31
      have cel22 := L.tl.tl.b0.c32
      go_wp2_with fail
      refine (H1.out _ _ (isD_n (m := m) (e := e) (s := .slice A (zl m) c) (L.getN (v := .slice A (zl m) c) (x := (m).natAbs) (by simp))) L.below).mono ?_
      rintro e w1 ⟨vv, rfl, id, be⟩
      clear cel20 cel21 cel22
      obtain ⟨A8, c8, rfl, _, in9⟩ := id.form
      replace L := (L.step be).n in9
      clear be id in9
      have hlg8 := L.b0.lt
      replace L := L.varD w1.heap.size rfl (ng M) A8 (zl M) c8 E
      have cel20 := L.tl.tl.b0.c30
      have cel21 := L.tl.tl.b0.c31
      have cel22 := L.tl.tl.b0.c32
      go_wp2_with fail
      obtain ⟨g8, hg⟩ : ∃ g, w1.heap.size = g := ⟨_, rfl⟩
      rw [hg] at L hlg8 ⊢
      clear hg
      refine (H2.out _ _ (isD_n (m := n) (e := f) (s := .slice B (zl n) d) (L.getN (v := .slice B (zl n) d) (x := (n).natAbs) (by simp))) L.below).mono ?_
      rintro e w2 ⟨vv, rfl, id, be⟩
      clear cel20 cel21 cel22
      obtain ⟨A9, c9, rfl, _, in9⟩ := id.form
      replace L := (L.step be).n in9
      clear be id in9
      have hl9 := L.b0.lt
      replace L := L.varD w2.heap.size rfl (ng N) A9 (zl N) c9 G
      have cel00 := L.b0.c30
      have cel01 := L.b0.c31
      have cel02 := L.b0.c32
      have cel10 := L.tl.b0.c30
      have cel11 := L.tl.b0.c31
      have cel12 := L.tl.b0.c32
      replace L := L.varI (w2.heap.size + 1) (by simp) (ng M) A8 (zl M) c8 E (ng N) A9 (zl N) c9 G
      have cem00 := L.b0.c60
      have cem01 := L.b0.c61
      have cem02 := L.b0.c62
      have cem03 := L.b0.c63
      have cem04 := L.b0.c64
      have cem05 := L.b0.c65
      have R := L.pick [(gr, 28, #[.bool false, .slice none 0 0, .int .i64 0, .bool false, .slice none 0 0, .int .i64 0])] (by simp)
      have r0 := R.b0.c60
      have s0 := R.b0.fr 0
      have r1 := R.b0.c61
      have s1 := R.b0.fr 1
      have r2 := R.b0.c62
      have s2 := R.b0.fr 2
      have r3 := R.b0.c63
      have s3 := R.b0.fr 3
      have r4 := R.b0.c64
      have s4 := R.b0.fr 4
      have r5 := R.b0.c65
      have s5 := R.b0.fr 5
      go_wp2_with fail
      have LP := R.putI (by omega) (by simp) false none 0 0 0 false none 0 0 0
      have k0' := LP.b0.c60
      have k1' := LP.b0.c61
      have k2' := LP.b0.c62
      have k3' := LP.b0.c63
      have k4' := LP.b0.c64
      have k5' := LP.b0.c65
      unfold put6 at k0' k1' k2' k3' k4' k5'
      exact bodyPost_ret (v := .tuple #[.agg #[.bool false, .slice none 0 0, .int .i64 0, .bool false, .slice none 0 0, .int .i64 0], .int .i64 3]) (by simp [results, Tryz.results119, go_sem, k0', k1', k2', k3', k4', k5']) rfl (by rw [HRT.out, if_neg (fun h => hr2 h.2.1)]; exact ⟨_, rfl, isI_zero _, LP.below⟩)
    · obtain rfl := of_decide_eq_true hr2
      have HR2 := Lib.hid (rfl : (0 : Int) = 0)
      have HS := Lib.hid (hsm.out rfl rfl)
      clear hr2 hsm
      go_enter Tryz.func119, Tryz.ntmps119
      go_wp2_with fail
      have L := (((L0.varD (w.heap.size) (by simp) (ng m) A (zl m) c e).varD (w.heap.size + 1) (by simp) (ng n) B (zl n) d f).varI (w.heap.size + 2) (by simp) false none 0 0 0 false none 0 0 0)
      obtain ⟨gr, hgr⟩ : ∃ gr, w.heap.size + 1 + 1 = gr := ⟨_, rfl⟩
      have hgr2 : w.heap.size + 2 = gr := hgr
      rw [hgr2] at L
      rw [hgr]
      have hgw : w.heap.size + 1 < gr := by omega
      clear hgr hgr2
      have cel20 := L.tl.tl.b0.c30
      have cel21 := L.tl.tl.b0.c31
      have cel22 := L.tl.tl.b0.c32
      go_wp2_with fail
      refine (H1.out _ _ (isD_n (m := m) (e := e) (s := .slice A (zl m) c) (L.getN (v := .slice A (zl m) c) (x := (m).natAbs) (by simp))) L.below).mono ?_
      rintro e w1 ⟨vv, rfl, id, be⟩
      clear cel20 cel21 cel22
      obtain ⟨A8, c8, rfl, _, in9⟩ := id.form
      replace L := (L.step be).n in9
      clear be id in9
      have hlg8 := L.b0.lt
      replace L := L.varD w1.heap.size rfl (ng M) A8 (zl M) c8 E
      have cel20 := L.tl.tl.b0.c30
      have cel21 := L.tl.tl.b0.c31
      have cel22 := L.tl.tl.b0.c32
      go_wp2_with fail
      obtain ⟨g8, hg⟩ : ∃ g, w1.heap.size = g := ⟨_, rfl⟩
      rw [hg] at L hlg8 ⊢
      clear hg
      refine (H2.out _ _ (isD_n (m := n) (e := f) (s := .slice B (zl n) d) (L.getN (v := .slice B (zl n) d) (x := (n).natAbs) (by simp))) L.below).mono ?_
      rintro e w2 ⟨vv, rfl, id, be⟩
      clear cel20 cel21 cel22
      obtain ⟨A9, c9, rfl, _, in9⟩ := id.form
      replace L := (L.step be).n in9
      clear be id in9
      have hl9 := L.b0.lt
      replace L := L.varD w2.heap.size rfl (ng N) A9 (zl N) c9 G
      have cel00 := L.b0.c30
      have cel01 := L.b0.c31
      have cel02 := L.b0.c32
      have cel10 := L.tl.b0.c30
      have cel11 := L.tl.b0.c31
      have cel12 := L.tl.b0.c32
      replace L := L.varI (w2.heap.size + 1) (by simp) (ng M) A8 (zl M) c8 E (ng N) A9 (zl N) c9 G
      have cem00 := L.b0.c60
      have cem01 := L.b0.c61
      have cem02 := L.b0.c62
      have cem03 := L.b0.c63
      have cem04 := L.b0.c64
      have cem05 := L.b0.c65
      go_wp2_with fail
      refine (HS.out _ _ (isI_n (s := .slice A8 (zl M) c8) (t := .slice A9 (zl N) c9) (L.getN (by simp)) (L.getN (by simp)))).mono ?_
      rintro e w3 ⟨rfl, be⟩
      clear cem00 cem01 cem02 cem03 cem04 cem05 cel00 cel01 cel02 cel10 cel11 cel12
      replace L := L.step be
      clear be
      cases b
      · skip
        have cel00 := L.b0.c60
        have cel01 := L.b0.c61
        have cel02 := L.b0.c62
        have cel03 := L.b0.c63
        have cel04 := L.b0.c64
        have cel05 := L.b0.c65
        have R := L.pick [(gr, 28, #[.bool false, .slice none 0 0, .int .i64 0, .bool false, .slice none 0 0, .int .i64 0])] (by simp)
        have r0 := R.b0.c60
        have s0 := R.b0.fr 0
        have r1 := R.b0.c61
        have s1 := R.b0.fr 1
        have r2 := R.b0.c62
        have s2 := R.b0.fr 2
        have r3 := R.b0.c63
        have s3 := R.b0.fr 3
        have r4 := R.b0.c64
        have s4 := R.b0.fr 4
        have r5 := R.b0.c65
        have s5 := R.b0.fr 5
        go_wp2_with fail
        have LP := R.putI (by omega) (by simp) false none 0 0 0 false none 0 0 0
        have k0' := LP.b0.c60
        have k1' := LP.b0.c61
        have k2' := LP.b0.c62
        have k3' := LP.b0.c63
        have k4' := LP.b0.c64
        have k5' := LP.b0.c65
        unfold put6 at k0' k1' k2' k3' k4' k5'
        exact bodyPost_ret (v := .tuple #[.agg #[.bool false, .slice none 0 0, .int .i64 0, .bool false, .slice none 0 0, .int .i64 0], .int .i64 3]) (by simp [results, Tryz.results119, go_sem, k0', k1', k2', k3', k4', k5']) rfl (by rw [HRT.out, if_neg (fun h => (by cases h.2.2))]; exact ⟨_, rfl, isI_zero _, LP.below⟩)
      · skip
        have cel00 := L.b0.c60
        have cel01 := L.b0.c61
        have cel02 := L.b0.c62
        have cel03 := L.b0.c63
        have cel04 := L.b0.c64
        have cel05 := L.b0.c65
        have R := L.pick [(gr, 28, #[.bool false, .slice none 0 0, .int .i64 0, .bool false, .slice none 0 0, .int .i64 0])] (by simp)
        have r0 := R.b0.c60
        have s0 := R.b0.fr 0
        have r1 := R.b0.c61
        have s1 := R.b0.fr 1
        have r2 := R.b0.c62
        have s2 := R.b0.fr 2
        have r3 := R.b0.c63
        have s3 := R.b0.fr 3
        have r4 := R.b0.c64
        have s4 := R.b0.fr 4
        have r5 := R.b0.c65
        have s5 := R.b0.fr 5
        go_wp2_with fail
        have LP := R.putI (by omega) (by simp) (ng M) A8 (zl M) c8 E (ng N) A9 (zl N) c9 G
        have k0' := LP.b0.c60
        have k1' := LP.b0.c61
        have k2' := LP.b0.c62
        have k3' := LP.b0.c63
        have k4' := LP.b0.c64
        have k5' := LP.b0.c65
        unfold put6 at k0' k1' k2' k3' k4' k5'
        exact bodyPost_ret (v := .tuple #[.agg #[.bool (ng M), .slice A8 (zl M) c8, .int .i64 E, .bool (ng N), .slice A9 (zl N) c9, .int .i64 G], .int .i64 0]) (by simp [results, Tryz.results119, go_sem, k0', k1', k2', k3', k4', k5']) rfl (by rw [HRT.out, if_pos ⟨HR1.out, HR2.out, by first | trivial | rfl⟩]; exact ⟨_, rfl, isI_n (LP.getN (by simp)) (LP.getN (by simp)), LP.below⟩)
set_option maxHeartbeats 16000000 in
theorem aenclR_any (a : Int) (d : Nat) (a2 : Int) (q : Nat) (k : Int) (vx vy : Value) (w : World) (hx : IsP w vx a d) (hy : IsP w vy a2 q) (la : zl a ≤ 800) (ld : len d ≤ 800) (hd : 0 < d) (lb : zl a2 ≤ 800) (lq : len q ≤ 800) (hq : 0 < q) (hw : workB k = true) (hT : Tab w) :
    Calls Tryz.prog 180 #[vx, vy, .int .i64 k, .func (.func 164) #[] #[], .func (.func 181) #[] #[]] w (RetEn w (Rat.divInt a (d : Int)) (Rat.divInt a2 (q : Int)) k) := by
  obtain ⟨wp, wk1, wk2⟩ := work_perm hw
  obtain ⟨A, c, B, i, rfl, _, _, _⟩ := hx.form
  obtain ⟨A', c', B', i', rfl, _, _, _⟩ := hy.form
  have L0 := ((Lq.mk0 w).q hy).q hx
  have y4 := zl_neg a2
  have y1 := zl_cut a d hd k
  have y2 := zl_cut (-a2) q hq k
  rw [← Rat.neg_divInt] at y2
  have f1 := fun v W h (hW : Below w.heap.size w W) => gfloorR_any a d k v W h (by omega) (by omega) hd (by omega) (by omega) (hT.mono hW)
  have f2 := fun v W h (hW : Below w.heap.size w W) => gceilR_any a2 q k v W h (by omega) (by omega) hq (by omega) (by omega) (hT.mono hW)
  obtain ⟨lo, hlo⟩ : ∃ lo, Rat.divInt a (d : Int) = lo := ⟨_, rfl⟩
  obtain ⟨hi, hhi⟩ : ∃ hi, Rat.divInt a2 (q : Int) = hi := ⟨_, rfl⟩
  rw [hlo] at f1 y1 ⊢
  rw [hhi] at f2 y2 ⊢
  have y3 := zl_neg (cutQ (-hi) k)
  have y5 := zl_mk (cutQ lo k) (-k)
  have y6 := zl_mk (-(cutQ (-hi) k)) (-k)
  rw [(g_yes wp (cutQ lo k)).1, (g_yes wp (cutQ lo k)).2.1, (g_yes wp (cutQ lo k)).2.2] at f1
  rw [(g_yes wp (-(cutQ (-hi) k))).1, (g_yes wp (-(cutQ (-hi) k))).2.1, (g_yes wp (-(cutQ (-hi) k))).2.2] at f2
  have hsm := Lib.hid (fun (q1 : mkR (cutQ lo k) (-k) = 0) (q2 : mkR (-(cutQ (-hi) k)) (-k) = 0) v W h => (show Calls Tryz.prog 39 #[v] W (RetB W (enB lo hi k)) from asmall_any (enM lo k) (enE lo k) (upM hi k) (upE hi k) v W h (by unfold enM; omega) (by unfold upM; omega) (by have := dv_bound (mk_ok q1); unfold enE; omega) (by have := dv_bound (mk_ok q2); unfold upE; omega) (mk_ok q1) (mk_ok q2)))
  have HRT := Lib.hid (show RetEn w lo hi k = if mkR (cutQ lo k) (-k) = 0 ∧ mkR (-(cutQ (-hi) k)) (-k) = 0 ∧ enB lo hi k = true then RetIE w (enM lo k) (enE lo k) (upM hi k) (upE hi k) 0 else RetIE w 0 0 0 0 3 from by unfold RetEn; rw [if_pos hw])
  unfold enM enE upM upE at hsm HRT
  have H1 := Lib.hid f1
  have H2 := Lib.hid f2
  clear f1 f2 hlo hhi y1 y2 y3 y4 y5 y6 wp hx hy la ld hd lb lq hq hw hT wk1 wk2
  generalize mkR (cutQ lo k) (-k) = R1 at *
  generalize mkR (-(cutQ (-hi) k)) (-k) = R2 at *
  generalize mkM (cutQ lo k) (-k) = M at *
  generalize mkE (cutQ lo k) (-k) = E at *
  generalize mkM (-(cutQ (-hi) k)) (-k) = N at *
  generalize mkE (-(cutQ (-hi) k)) (-k) = G at *
  generalize enB lo hi k = b at *
  cases hr1 : decide (R1 = 0)
  · replace hr1 := of_decide_eq_false hr1
    have e1 : (R1 != 0) = true := by simpa using hr1
    have e2 : (R1 == 0) = false := by simpa using hr1
    clear hsm
    go_enter Tryz.func180, Tryz.ntmps180
    go_wp2_with fail
    have L := (((L0.varQ (w.heap.size) (by simp) (ng a) A B (zl a) c (len d) i).varQ (w.heap.size + 1) (by simp) (ng a2) A' B' (zl a2) c' (len q) i').varI (w.heap.size + 2) (by simp) false none 0 0 0 false none 0 0 0)
    obtain ⟨gr, hgr⟩ : ∃ gr, w.heap.size + 1 + 1 = gr := ⟨_, rfl⟩
    have hgr2 : w.heap.size + 2 = gr := hgr
    rw [hgr2] at L
    rw [hgr]
    have hgw : w.heap.size + 1 < gr := by omega
    clear hgr hgr2
    have cel20 := L.tl.tl.b0.c30
    have cel21 := L.tl.tl.b0.c31
    have cel22 := L.tl.tl.b0.c32
    go_wp2_with fail
    refine (H1.out _ _ (L.getQ (v := .agg #[.bool (ng a), .slice A (zl a) c, .slice B (len d) i]) (a := a) (d := d) (by simp)) L.below).mono ?_
    rintro e w1 ⟨vv, rfl, id, be⟩
    clear cel20 cel21 cel22
    obtain ⟨A8, c8, rfl, _, in9⟩ := id.form
    replace L := (L.step be).n in9
    clear be id in9
    have hlg8 := L.b0.lt
    replace L := L.varD w1.heap.size rfl (ng M) A8 (zl M) c8 E
    have cel20 := L.tl.tl.b0.c30
    have cel21 := L.tl.tl.b0.c31
    have cel22 := L.tl.tl.b0.c32
    go_wp2_with fail
    obtain ⟨g8, hg⟩ : ∃ g, w1.heap.size = g := ⟨_, rfl⟩
    rw [hg] at L hlg8 ⊢
    clear hg
    refine (H2.out _ _ (L.getQ (v := .agg #[.bool (ng a2), .slice A' (zl a2) c', .slice B' (len q) i']) (a := a2) (d := q) (by simp)) L.below).mono ?_
    rintro e w2 ⟨vv, rfl, id, be⟩
    clear cel20 cel21 cel22
    obtain ⟨A9, c9, rfl, _, in9⟩ := id.form
    replace L := (L.step be).n in9
    clear be id in9
    have hl9 := L.b0.lt
    replace L := L.varD w2.heap.size rfl (ng N) A9 (zl N) c9 G
    have cel00 := L.b0.c30
    have cel01 := L.b0.c31
    have cel02 := L.b0.c32
    have cel10 := L.tl.b0.c30
    have cel11 := L.tl.b0.c31
    have cel12 := L.tl.b0.c32
    replace L := L.varI (w2.heap.size + 1) (by simp) (ng M) A8 (zl M) c8 E (ng N) A9 (zl N) c9 G
    have cem00 := L.b0.c60
    have cem01 := L.b0.c61
    have cem02 := L.b0.c62
    have cem03 := L.b0.c63
    have cem04 := L.b0.c64
    have cem05 := L.b0.c65
    have R := L.pick [(gr, 28, #[.bool false, .slice none 0 0, .int .i64 0, .bool false, .slice none 0 0, .int .i64 0])] (by simp)
    have r0 := R.b0.c60
    have s0 := R.b0.fr 0
    have r1 := R.b0.c61
    have s1 := R.b0.fr 1
    have r2 := R.b0.c62
    have s2 := R.b0.fr 2
    have r3 := R.b0.c63
    have s3 := R.b0.fr 3
    have r4 := R.b0.c64
    have s4 := R.b0.fr 4
    have r5 := R.b0.c65
    have s5 := R.b0.fr 5
    go_wp2_with fail
    have LP := R.putI (by omega) (by simp) false none 0 0 0 false none 0 0 0
    have k0' := LP.b0.c60
    have k1' := LP.b0.c61
    have k2' := LP.b0.c62
    have k3' := LP.b0.c63
    have k4' := LP.b0.c64
    have k5' := LP.b0.c65
    unfold put6 at k0' k1' k2' k3' k4' k5'
    exact bodyPost_ret (v := .tuple #[.agg #[.bool false, .slice none 0 0, .int .i64 0, .bool false, .slice none 0 0, .int .i64 0], .int .i64 3]) (by simp [results, Tryz.results180, go_sem, k0', k1', k2', k3', k4', k5']) rfl (by rw [HRT.out, if_neg (fun h => hr1 h.1)]; exact ⟨_, rfl, isI_zero _, LP.below⟩)
  · obtain rfl := of_decide_eq_true hr1
    have HR1 := Lib.hid (rfl : (0 : Int) = 0)
    clear hr1
    cases hr2 : decide (R2 = 0)
    · replace hr2 := of_decide_eq_false hr2
      have e1 : (R2 != 0) = true := by simpa using hr2
      have e2 : (R2 == 0) = false := by simpa using hr2
      clear hsm
      go_enter Tryz.func180, Tryz.ntmps180
      go_wp2_with fail
      have L := (((L0.varQ (w.heap.size) (by simp) (ng a) A B (zl a) c (len d) i).varQ (w.heap.size + 1) (by simp) (ng a2) A' B' (zl a2) c' (len q) i').varI (w.heap.size + 2) (by simp) false none 0 0 0 false none 0 0 0)
      obtain ⟨gr, hgr⟩ : ∃ gr, w.heap.size + 1 + 1 = gr := ⟨_, rfl⟩
      have hgr2 : w.heap.size + 2 = gr := hgr
      rw [hgr2] at L
      rw [hgr]
      have hgw : w.heap.size + 1 < gr := by omega
      clear hgr hgr2
      have cel20 := L.tl.tl.b0.c30
      have cel21 := L.tl.tl.b0.c31
      have cel22 := L.tl.tl.b0.c32
      go_wp2_with fail
      refine (H1.out _ _ (L.getQ (v := .agg #[.bool (ng a), .slice A (zl a) c, .slice B (len d) i]) (a := a) (d := d) (by simp)) L.below).mono ?_
      rintro e w1 ⟨vv, rfl, id, be⟩
      clear cel20 cel21 cel22
      obtain ⟨A8, c8, rfl, _, in9⟩ := id.form
      replace L := (L.step be).n in9
      clear be id in9
      have hlg8 := L.b0.lt
      replace L := L.varD w1.heap.size rfl (ng M) A8 (zl M) c8 E
      have cel20 := L.tl.tl.b0.c30
      have cel21 := L.tl.tl.b0.c31
      have cel22 := L.tl.tl.b0.c32
      go_wp2_with fail
      obtain ⟨g8, hg⟩ : ∃ g, w1.heap.size = g := ⟨_, rfl⟩
      rw [hg] at L hlg8 ⊢
      clear hg
      refine (H2.out _ _ (L.getQ (v := .agg #[.bool (ng a2), .slice A' (zl a2) c', .slice B' (len q) i']) (a := a2) (d := q) (by simp)) L.below).mono ?_
      rintro e w2 ⟨vv, rfl, id, be⟩
      clear cel20 cel21 cel22
      obtain ⟨A9, c9, rfl, _, in9⟩ := id.form
      replace L := (L.step be).n in9
      clear be id in9
      have hl9 := L.b0.lt
      replace L := L.varD w2.heap.size rfl (ng N) A9 (zl N) c9 G
      have cel00 := L.b0.c30
      have cel01 := L.b0.c31
      have cel02 := L.b0.c32
      have cel10 := L.tl.b0.c30
      have cel11 := L.tl.b0.c31
      have cel12 := L.tl.b0.c32
      replace L := L.varI (w2.heap.size + 1) (by simp) (ng M) A8 (zl M) c8 E (ng N) A9 (zl N) c9 G
      have cem00 := L.b0.c60
      have cem01 := L.b0.c61
      have cem02 := L.b0.c62
      have cem03 := L.b0.c63
      have cem04 := L.b0.c64
      have cem05 := L.b0.c65
      have R := L.pick [(gr, 28, #[.bool false, .slice none 0 0, .int .i64 0, .bool false, .slice none 0 0, .int .i64 0])] (by simp)
      have r0 := R.b0.c60
      have s0 := R.b0.fr 0
      have r1 := R.b0.c61
      have s1 := R.b0.fr 1
      have r2 := R.b0.c62
      have s2 := R.b0.fr 2
      have r3 := R.b0.c63
      have s3 := R.b0.fr 3
      have r4 := R.b0.c64
      have s4 := R.b0.fr 4
      have r5 := R.b0.c65
      have s5 := R.b0.fr 5
      go_wp2_with fail
      have LP := R.putI (by omega) (by simp) false none 0 0 0 false none 0 0 0
      have k0' := LP.b0.c60
      have k1' := LP.b0.c61
      have k2' := LP.b0.c62
      have k3' := LP.b0.c63
      have k4' := LP.b0.c64
      have k5' := LP.b0.c65
      unfold put6 at k0' k1' k2' k3' k4' k5'
      exact bodyPost_ret (v := .tuple #[.agg #[.bool false, .slice none 0 0, .int .i64 0, .bool false, .slice none 0 0, .int .i64 0], .int .i64 3]) (by simp [results, Tryz.results180, go_sem, k0', k1', k2', k3', k4', k5']) rfl (by rw [HRT.out, if_neg (fun h => hr2 h.2.1)]; exact ⟨_, rfl, isI_zero _, LP.below⟩)
    · obtain rfl := of_decide_eq_true hr2
      have HR2 := Lib.hid (rfl : (0 : Int) = 0)
      have HS := Lib.hid (hsm.out rfl rfl)
      clear hr2 hsm
      go_enter Tryz.func180, Tryz.ntmps180
      go_wp2_with fail
      have L := (((L0.varQ (w.heap.size) (by simp) (ng a) A B (zl a) c (len d) i).varQ (w.heap.size + 1) (by simp) (ng a2) A' B' (zl a2) c' (len q) i').varI (w.heap.size + 2) (by simp) false none 0 0 0 false none 0 0 0)
      obtain ⟨gr, hgr⟩ : ∃ gr, w.heap.size + 1 + 1 = gr := ⟨_, rfl⟩
      have hgr2 : w.heap.size + 2 = gr := hgr
      rw [hgr2] at L
      rw [hgr]
      have hgw : w.heap.size + 1 < gr := by omega
      clear hgr hgr2
      have cel20 := L.tl.tl.b0.c30
      have cel21 := L.tl.tl.b0.c31
      have cel22 := L.tl.tl.b0.c32
      go_wp2_with fail
      refine (H1.out _ _ (L.getQ (v := .agg #[.bool (ng a), .slice A (zl a) c, .slice B (len d) i]) (a := a) (d := d) (by simp)) L.below).mono ?_
      rintro e w1 ⟨vv, rfl, id, be⟩
      clear cel20 cel21 cel22
      obtain ⟨A8, c8, rfl, _, in9⟩ := id.form
      replace L := (L.step be).n in9
      clear be id in9
      have hlg8 := L.b0.lt
      replace L := L.varD w1.heap.size rfl (ng M) A8 (zl M) c8 E
      have cel20 := L.tl.tl.b0.c30
      have cel21 := L.tl.tl.b0.c31
      have cel22 := L.tl.tl.b0.c32
      go_wp2_with fail
      obtain ⟨g8, hg⟩ : ∃ g, w1.heap.size = g := ⟨_, rfl⟩
      rw [hg] at L hlg8 ⊢
      clear hg
      refine (H2.out _ _ (L.getQ (v := .agg #[.bool (ng a2), .slice A' (zl a2) c', .slice B' (len q) i']) (a := a2) (d := q) (by simp)) L.below).mono ?_
      rintro e w2 ⟨vv, rfl, id, be⟩
      clear cel20 cel21 cel22
      obtain ⟨A9, c9, rfl, _, in9⟩ := id.form
      replace L := (L.step be).n in9
      clear be id in9
      have hl9 := L.b0.lt
      replace L := L.varD w2.heap.size rfl (ng N) A9 (zl N) c9 G
      have cel00 := L.b0.c30
      have cel01 := L.b0.c31
      have cel02 := L.b0.c32
      have cel10 := L.tl.b0.c30
      have cel11 := L.tl.b0.c31
      have cel12 := L.tl.b0.c32
      replace L := L.varI (w2.heap.size + 1) (by simp) (ng M) A8 (zl M) c8 E (ng N) A9 (zl N) c9 G
      have cem00 := L.b0.c60
      have cem01 := L.b0.c61
      have cem02 := L.b0.c62
      have cem03 := L.b0.c63
      have cem04 := L.b0.c64
      have cem05 := L.b0.c65
      go_wp2_with fail
      refine (HS.out _ _ (isI_n (s := .slice A8 (zl M) c8) (t := .slice A9 (zl N) c9) (L.getN (by simp)) (L.getN (by simp)))).mono ?_
      rintro e w3 ⟨rfl, be⟩
      clear cem00 cem01 cem02 cem03 cem04 cem05 cel00 cel01 cel02 cel10 cel11 cel12
      replace L := L.step be
      clear be
      cases b
      · skip
        have cel00 := L.b0.c60
        have cel01 := L.b0.c61
        have cel02 := L.b0.c62
        have cel03 := L.b0.c63
        have cel04 := L.b0.c64
        have cel05 := L.b0.c65
        have R := L.pick [(gr, 28, #[.bool false, .slice none 0 0, .int .i64 0, .bool false, .slice none 0 0, .int .i64 0])] (by simp)
        have r0 := R.b0.c60
        have s0 := R.b0.fr 0
        have r1 := R.b0.c61
        have s1 := R.b0.fr 1
        have r2 := R.b0.c62
        have s2 := R.b0.fr 2
        have r3 := R.b0.c63
        have s3 := R.b0.fr 3
        have r4 := R.b0.c64
        have s4 := R.b0.fr 4
        have r5 := R.b0.c65
        have s5 := R.b0.fr 5
        go_wp2_with fail
        have LP := R.putI (by omega) (by simp) false none 0 0 0 false none 0 0 0
        have k0' := LP.b0.c60
        have k1' := LP.b0.c61
        have k2' := LP.b0.c62
        have k3' := LP.b0.c63
        have k4' := LP.b0.c64
        have k5' := LP.b0.c65
        unfold put6 at k0' k1' k2' k3' k4' k5'
        exact bodyPost_ret (v := .tuple #[.agg #[.bool false, .slice none 0 0, .int .i64 0, .bool false, .slice none 0 0, .int .i64 0], .int .i64 3]) (by simp [results, Tryz.results180, go_sem, k0', k1', k2', k3', k4', k5']) rfl (by rw [HRT.out, if_neg (fun h => (by cases h.2.2))]; exact ⟨_, rfl, isI_zero _, LP.below⟩)
      · skip
        have cel00 := L.b0.c60
        have cel01 := L.b0.c61
        have cel02 := L.b0.c62
        have cel03 := L.b0.c63
        have cel04 := L.b0.c64
        have cel05 := L.b0.c65
        have R := L.pick [(gr, 28, #[.bool false, .slice none 0 0, .int .i64 0, .bool false, .slice none 0 0, .int .i64 0])] (by simp)
        have r0 := R.b0.c60
        have s0 := R.b0.fr 0
        have r1 := R.b0.c61
        have s1 := R.b0.fr 1
        have r2 := R.b0.c62
        have s2 := R.b0.fr 2
        have r3 := R.b0.c63
        have s3 := R.b0.fr 3
        have r4 := R.b0.c64
        have s4 := R.b0.fr 4
        have r5 := R.b0.c65
        have s5 := R.b0.fr 5
        go_wp2_with fail
        have LP := R.putI (by omega) (by simp) (ng M) A8 (zl M) c8 E (ng N) A9 (zl N) c9 G
        have k0' := LP.b0.c60
        have k1' := LP.b0.c61
        have k2' := LP.b0.c62
        have k3' := LP.b0.c63
        have k4' := LP.b0.c64
        have k5' := LP.b0.c65
        unfold put6 at k0' k1' k2' k3' k4' k5'
        exact bodyPost_ret (v := .tuple #[.agg #[.bool (ng M), .slice A8 (zl M) c8, .int .i64 E, .bool (ng N), .slice A9 (zl N) c9, .int .i64 G], .int .i64 0]) (by simp [results, Tryz.results180, go_sem, k0', k1', k2', k3', k4', k5']) rfl (by rw [HRT.out, if_pos ⟨HR1.out, HR2.out, by first | trivial | rfl⟩]; exact ⟨_, rfl, isI_n (LP.getN (by simp)) (LP.getN (by simp)), LP.below⟩)

/-- No cell of a block is a digit of a natural. -/
def NoDig (w : World) (g : Nat) : Prop := ∀ (j : Nat) (x : Int), w.cell? ⟨g, j, none⟩ ≠ some (.int .u32 x)
def OwnC (w : World) (B : Nat) (e : TypeId) (v : Value) (n : Nat) (xs : List Value) : Prop := w.ownsRow B e 3 v n xs ∧ ∀ g, v.ownBlock = some g → NoDig w g
theorem IsN.kept {w w' : World} {row : Option Nat} {v : Value} {x : Nat} (h : IsN w v x) (hg : w.grownBy w' row) (hn : ∀ g, row = some g → NoDig w g) : IsN w' v x := by
  obtain ⟨A, n, c, e, hs⟩ := h
  refine ⟨A, n, c, e, hs.len, hs.cap, hs.most, hs.small, fun hp => ?_⟩
  obtain ⟨b, off, h1, h2, h3⟩ := hs.place hp
  have hne : some b ≠ row := fun he => hn b he.symm (off + 0) _ (h3 0 hp)
  exact ⟨b, off, h1, Nat.lt_of_lt_of_le h2 hg.size, fun j hj => hg.cell (a := ⟨b, off + j, none⟩) (h3 j hj) hne⟩
theorem IsP.kept {w w' : World} {row : Option Nat} {v : Value} {a : Int} {d : Nat} (h : IsP w v a d) (hg : w.grownBy w' row) (hn : ∀ g, row = some g → NoDig w g) : IsP w' v a d := by
  obtain ⟨s, t, e, h1, h2⟩ := h
  exact ⟨s, t, e, h1.kept hg hn, h2.kept hg hn⟩
theorem OwnC.nil (w : World) (B : Nat) (e : TypeId) : OwnC w B e (.slice none 0 0) 0 [] := ⟨World.ownsRow_nil w B e 3, fun g h => by cases h⟩
theorem OwnC.below {w w' : World} {B n : Nat} {e : TypeId} {v : Value} {xs : List Value} (h : OwnC w B e v n xs) (hb : Below w.heap.size w w') : OwnC w' B e v n xs := by
  obtain ⟨h0, hd⟩ := h
  have hlt := h0.lt
  obtain ⟨h1, h2⟩ := h0
  refine ⟨⟨h1, ?_⟩, fun g hg j x hc => hd g hg j x ?_⟩
  · rcases h2 with h2 | ⟨g, cap, cur, e1, e2, e3, e4⟩
    · exact .inl h2
    · refine .inr ⟨g, cap, cur, e1, e2, ?_, e4⟩
      rw [hb.block g (hlt g (by rw [e1]; rfl)).2]; exact e3
  · rw [← hb.cell (p := ⟨g, j, none⟩) (hlt g hg).2]; exact hc
theorem OwnC.blockGe {w : World} {B n : Nat} {e : TypeId} {v : Value} {xs : List Value} (h : OwnC w B e v n xs) : ∀ g, v.ownBlock = some g → B ≤ g := fun g hg => (h.1.lt g hg).1
theorem noDig_row {w : World} {g : Nat} {cs : Array Value} {t : TypeId} {fr : Nat × Nat} (hg : w.heap[g]? = some (.cells cs t fr)) (h : ∀ u ∈ cs, ∀ x : Int, u ≠ .int .u32 x) : NoDig w g := fun j x hc => by
  rw [cell_of_row w g j cs t fr hg] at hc
  exact h _ (Array.mem_of_getElem? hc) x rfl
theorem zeroCells_nd {z : Array Value} (hz : ∀ u ∈ z, ∀ x : Int, u ≠ .int .u32 x) (n : Nat) : ∀ u ∈ Builtin.zeroCells z n, ∀ x : Int, u ≠ .int .u32 x := fun u hu x => by
  unfold Builtin.zeroCells at hu
  rw [Array.mem_map] at hu
  obtain ⟨k, hk, rfl⟩ := hu
  have hk' : k < n * z.size := Array.mem_range.1 hk
  have h0 : 0 < z.size := by
    rcases Nat.eq_zero_or_pos z.size with h | h
    · rw [h] at hk'; omega
    · exact h
  have hm := Nat.mod_lt k h0
  rw [getElem!_pos z (k % z.size) hm]
  exact hz _ (Array.getElem_mem hm) x
set_option maxHeartbeats 1000000 in
theorem run_app3 (w : World) (B : Nat) (t ty e : TypeId) (i : TypeInfo) (z : Value) (bytes : Nat) (ht : Tryz.prog.underlying t = some (.slice e)) (hi : Tryz.prog.info? e = some i) (hz : i.zero = some z) (hsize : i.size = 3) (hby : i.bytes = bytes) (hzs : z.cells.size = 3) (hzd : ∀ u ∈ z.cells, ∀ x : Int, u ≠ .int .u32 x)
    (v : Value) (n : Nat) (xs : List Value) (hown : OwnC w B e v n xs) (a : Addr) (c : Nat) (news : List Value) (hl : news.length = 3) (hnews : ∀ j u, news[j]? = some u → w.cell? (a.add j) = some u) (h1 : ∀ u ∈ news, u.oneCell' = true) (hnd : ∀ u ∈ news, ∀ x : Int, u ≠ .int .u32 x) (hn : n ≤ 1000000) (hb : bytes ≤ 1000) (hbase : B ≤ w.heap.size) :
    ∃ v' w', (Builtin.append_ #[t, t] ty #[v, .slice (some a) 1 c]).run Tryz.prog w = .ok v' w' ∧ OwnC w' B e v' (n + 1) (xs ++ news) ∧ w.grownBy w' v.ownBlock := by
  have hbn : (n + 1) * bytes ≤ 1000001 * 1000 := Nat.mul_le_mul (by omega) hb
  obtain ⟨v', w', hr, h2, h3, _⟩ := run_append_own (P := Tryz.prog) w B t ty e i z 3 bytes ht hi hz hsize hby hzs (by omega) v n xs hown.1 a 1 c news (by omega) hnews h1 (by unfold maxLen; omega) (by omega) hbase
  refine ⟨v', w', hr, ⟨h2, ?_⟩, h3⟩
  have zer := zeroCells_nd hzd
  have hxs : ∀ u ∈ xs, ∀ x : Int, u ≠ .int .u32 x := fun u hu x he => by
    rcases hown.1.2 with ⟨_, rfl⟩ | ⟨g, cap, cur, rfl, hbg, hg, hnc, hcm, hcs, htake⟩
    · have := hown.1.1
      rw [List.eq_nil_of_length_eq_zero (l := xs) (by omega)] at hu
      cases hu
    · rw [← htake] at hu
      obtain ⟨j, hj, rfl⟩ := List.getElem_of_mem (List.mem_of_mem_take hu)
      refine hown.2 g rfl j x ?_
      simp only [Array.length_toList] at hj
      rw [cell_of_row w g j cur e (0, 0) hg, Array.getElem?_eq_getElem hj]
      exact congrArg some (by simpa using he)
  rcases hown.1.2 with ⟨rfl, rfl⟩ | ⟨g, cap, cur, rfl, hbg, hg, hnc, hcm, hcs, htake⟩
  · have hr2 := run_append_nil (P := Tryz.prog) w t ty e i z ht hi hz a 1 c news (by rw [hsize]; omega) hnews (by omega) (by omega) (by rw [hby]; omega)
    rw [hr2] at hr
    simp only [Result.ok.injEq] at hr
    obtain ⟨rfl, rfl⟩ := hr
    intro g hg
    obtain rfl : w.heap.size = g := by simpa [Value.ownBlock] using hg
    refine noDig_row (heap_alloc_new w.drew _) (fun u hu x => ?_)
    rw [Array.mem_append] at hu
    rcases hu with hu | hu
    · exact hnd u (by simpa using hu) x
    · exact zer _ u hu x
  · by_cases hroom : n + 1 ≤ cap
    · have hfit : n * i.size + news.length ≤ cur.size := by rw [hsize, hl, hcs]; omega
      have hr2 := run_append_room (P := Tryz.prog) w t ty e i ht hi g n cap cur hg a 1 c news (by rw [hsize]; omega) hnews h1 hroom hfit
      rw [hr2] at hr
      simp only [Result.ok.injEq] at hr
      obtain ⟨rfl, rfl⟩ := hr
      intro g' hg'
      obtain rfl : g = g' := by simpa [Value.ownBlock] using hg'
      refine noDig_row (setRow_heap w g cur _ e _ hg) (fun u hu x he => ?_)
      have hcur : ∀ u ∈ cur.toList, ∀ x : Int, u ≠ .int .u32 x := fun u hu x he => by
        obtain ⟨j, hj, rfl⟩ := List.getElem_of_mem hu
        refine hown.2 g rfl j x ?_
        simp only [Array.length_toList] at hj
        rw [cell_of_row w g j cur e (0, 0) hg, Array.getElem?_eq_getElem hj]
        exact congrArg some (by simpa using he)
      rw [List.mem_toArray, List.mem_append, List.mem_append] at hu
      rcases hu with (hu | hu) | hu
      · exact hcur u (List.mem_of_mem_take hu) x he
      · exact hnd u hu x he
      · exact hcur u (List.mem_of_mem_drop hu) x he
    · have holds : ∀ j u, xs[j]? = some u → w.cell? ((⟨g, 0, none⟩ : Addr).add j) = some u := hown.1.cells (g := g) rfl
      have hr2 := run_append_grow (P := Tryz.prog) w t ty e i z ht hi hz ⟨g, 0, none⟩ n cap xs (by rw [hsize]; exact hown.1.1) holds a 1 c news (by rw [hsize]; omega) hnews (by omega) (by omega) (growslice_fits (by omega) (by rw [hby]; omega))
      rw [hr2] at hr
      simp only [Result.ok.injEq] at hr
      obtain ⟨rfl, rfl⟩ := hr
      intro g' hg'
      obtain rfl : w.heap.size = g' := by simpa [Value.ownBlock] using hg'
      refine noDig_row (heap_alloc_new w.drew _) (fun u hu x => ?_)
      rw [Array.mem_append, Array.mem_append] at hu
      rcases hu with (hu | hu) | hu
      · exact hxs u (by simpa using hu) x
      · exact hnd u (by simpa using hu) x
      · exact zer _ u hu x
theorem wpList_app3 (w : World) {ops : Array Oper} {rest : List Oper} {o : Oper} {a : Act} {Q : Exit → Act → World → Prop} (hgd : o.guard = none) (s x : Operand) (t : TypeId)
    (ho : o.op = .call { callee := .builtin .append, args := #[s, x], argTypes := #[t, t] })
    (B : Nat) (e : TypeId) (i : TypeInfo) (z : Value) (bytes : Nat) (ht : Tryz.prog.underlying t = some (.slice e)) (hi : Tryz.prog.info? e = some i) (hz : i.zero = some z) (hsize : i.size = 3) (hby : i.bytes = bytes) (hzs : z.cells.size = 3) (hzd : ∀ u ∈ z.cells, ∀ x : Int, u ≠ .int .u32 x)
    (v : Value) (n : Nat) (xs : List Value) (hs : a.eval s = v) (hown : OwnC w B e v n xs) (ad : Addr) (c : Nat) (news : List Value) (hx : a.eval x = .slice (some ad) 1 c) (hl : news.length = 3) (hnews : ∀ j u, news[j]? = some u → w.cell? (ad.add j) = some u) (h1 : ∀ u ∈ news, u.oneCell' = true) (hnd : ∀ u ∈ news, ∀ x : Int, u ≠ .int .u32 x) (hn : n ≤ 1000000) (hb : bytes ≤ 1000) (hbase : B ≤ w.heap.size)
    (h : ∀ v' w', OwnC w' B e v' (n + 1) (xs ++ news) → w.grownBy w' v.ownBlock → wpList Tryz.prog ops Q rest (a.put o.dst v') w') : wpList Tryz.prog ops Q (o :: rest) a w :=
  wpList_plain hgd fun _ hK => by
    obtain ⟨v', w', hr, h2, h3⟩ := run_app3 w B t o.type e i z bytes ht hi hz hsize hby hzs hzd v n xs hown ad c news hl hnews h1 hnd hn hb hbase
    unfold Oper.wp execOp
    simp only [ho, resolve, invoke, builtin, Sem.run_bind, Sem.run_pure, Result.andThen_ok, List.map_toArray, List.map_cons, List.map_nil, hs, hx, hr]
    exact hK _ _ (h v' w' h2 h3)
theorem info_dy11 : (Tryz.prog.info? 26).map (fun i => (i.zero, i.size, i.bytes)) = some (some (.agg #[.bool false, .slice none 0 0, .int .i64 0]), 3, 40) := by kernel_rfl
def OwnDy (w : World) (B : Nat) (v : Value) (l : List (Int × Int)) : Prop := ∃ xs, OwnC w B 26 v l.length xs ∧ ∀ (j : Nat) (p : Int × Int), l[j]? = some p → ∃ A c, xs[3 * j]? = some (.bool (ng p.1)) ∧ xs[3 * j + 1]? = some (.slice A (zl p.1) c) ∧ xs[3 * j + 2]? = some (.int .i64 p.2) ∧ IsN w (.slice A (zl p.1) c) p.1.natAbs
theorem OwnDy.nil (w : World) (B : Nat) : OwnDy w B (.slice none 0 0) [] := ⟨[], OwnC.nil w B _, fun j p h => by simp at h⟩
theorem OwnDy.below {w w' : World} {B : Nat} {v : Value} {l : List (Int × Int)} (h : OwnDy w B v l) (hb : Below w.heap.size w w') : OwnDy w' B v l := by
  obtain ⟨xs, h1, h2⟩ := h
  refine ⟨xs, h1.below hb, fun j p hp => ?_⟩
  obtain ⟨A, c, a1, a2, a3, a4⟩ := h2 j p hp
  exact ⟨A, c, a1, a2, a3, a4.mono hb⟩
theorem OwnDy.blockGe {w : World} {B : Nat} {v : Value} {l : List (Int × Int)} (h : OwnDy w B v l) : ∀ g, v.ownBlock = some g → B ≤ g := by
  obtain ⟨xs, h1, h2⟩ := h
  exact h1.blockGe
theorem OwnDy.row {w : World} {B : Nat} {v : Value} {l : List (Int × Int)} (h : OwnDy w B v l) (h0 : 0 < l.length) : RowD w v l := by
  obtain ⟨xs, h1, h2⟩ := h
  obtain ⟨g, cap, rfl⟩ := Go.Joins.ownsRow_form h1.1 (by omega)
  refine ⟨g, cap, rfl, (h1.1.lt g rfl).2, fun j p hp => ?_⟩
  obtain ⟨A, c, a1, a2, a3, a4⟩ := h2 j p hp
  have hj : j < l.length := by
    rcases Nat.lt_or_ge j l.length with h | h
    · exact h
    · rw [List.getElem?_eq_none h] at hp; cases hp
  exact ⟨A, c, by rw [h1.1.cellAt _ (by omega)]; exact a1, by rw [h1.1.cellAt _ (by omega)]; exact a2, by rw [h1.1.cellAt _ (by omega)]; exact a3, a4⟩
set_option maxHeartbeats 1000000 in
theorem wp_appDy (w : World) {ops : Array Oper} {rest : List Oper} {o : Oper} {a : Act} {Q : Exit → Act → World → Prop} (hgd : o.guard = none) (s x : Operand)
    (ho : o.op = .call { callee := .builtin .append, args := #[s, x], argTypes := #[124, 124] })
    (B : Nat) (v : Value) (l : List (Int × Int)) (hs : a.eval s = v) (hO : OwnDy w B v l) (g : Nat) {A : Option Addr} {m : Int} {c : Nat} {e : Int} (cp : Nat) (hx : a.eval x = .slice (some ⟨g, 0, none⟩) 1 cp) (hc : ∀ j u, [.bool (ng m), .slice A (zl m) c, .int .i64 e][j]? = some u → w.cell? ⟨g, j, none⟩ = some u) (hN : IsN w (.slice A (zl m) c) m.natAbs) (hk : l.length < 1000000) (hbase : B ≤ w.heap.size)
    (h : ∀ v' w', OwnDy w' B v' (l ++ [(m, e)]) → w.grownBy w' v.ownBlock → (∀ u x, IsN w u x → IsN w' u x) → wpList Tryz.prog ops Q rest (a.put o.dst v') w') : wpList Tryz.prog ops Q (o :: rest) a w := by
  obtain ⟨i0, hi, hz0, hz1, hz2⟩ := info_parts info_dy11
  obtain ⟨xs, h1, h2⟩ := hO
  have hxl := h1.1.1
  refine wpList_app3 w hgd s x 124 ho B 26 i0 _ 40 Tryz.underlying124 hi hz0 hz1 hz2 rfl ?_ v l.length xs hs h1 ⟨g, 0, none⟩ cp [.bool (ng m), .slice A (zl m) c, .int .i64 e] hx rfl ?_ ?_ ?_ (by omega) (by omega) hbase ?_
  · intro u hu x
    simp only [Value.cells, List.mem_toArray, List.mem_cons, List.not_mem_nil, or_false] at hu
    rcases hu with rfl | rfl | rfl <;> simp
  · intro j u hj
    rw [show ((⟨g, 0, none⟩ : Addr).add j) = ⟨g, j, none⟩ from by by_cases h0 : j = 0 <;> simp [Addr.add, h0]]
    exact hc j u hj
  · intro u hu
    simp only [List.mem_cons, List.not_mem_nil, or_false] at hu
    rcases hu with rfl | rfl | rfl <;> rfl
  · intro u hu x
    simp only [List.mem_cons, List.not_mem_nil, or_false] at hu
    rcases hu with rfl | rfl | rfl <;> simp
  · intro v' w' hr hg
    refine h v' w' ⟨xs ++ [.bool (ng m), .slice A (zl m) c, .int .i64 e], by rw [List.length_append]; exact hr, fun j p hp => ?_⟩ hg (fun u x hu => hu.kept hg h1.2)
    rcases Nat.lt_or_ge j l.length with hjk | hjk
    · rw [List.getElem?_append_left hjk] at hp
      obtain ⟨A, c, a1, a2, a3, a4⟩ := h2 j p hp
      exact ⟨A, c, by rw [List.getElem?_append_left (by omega)]; exact a1, by rw [List.getElem?_append_left (by omega)]; exact a2, by rw [List.getElem?_append_left (by omega)]; exact a3, a4.kept hg h1.2⟩
    · rw [List.getElem?_append_right hjk] at hp
      obtain rfl : j = l.length := by
        rcases Nat.eq_or_lt_of_le hjk with h | h
        · exact h.symm
        · rw [List.getElem?_eq_none (by simp; omega)] at hp; cases hp
      obtain rfl : (m, e) = p := by simpa using hp
      exact ⟨A, c, by rw [List.getElem?_append_right (by omega), show 3 * l.length - xs.length = 0 from by omega]; rfl, by rw [List.getElem?_append_right (by omega), show 3 * l.length + 1 - xs.length = 1 from by omega]; rfl, by rw [List.getElem?_append_right (by omega), show 3 * l.length + 2 - xs.length = 2 from by omega]; rfl, hN.kept hg h1.2⟩

def OwnRa (w : World) (B : Nat) (v : Value) (l : List (Int × Nat)) : Prop := ∃ xs, OwnC w B 53 v l.length xs ∧ ∀ (j : Nat) (p : Int × Nat), l[j]? = some p → ∃ A c B k, xs[3 * j]? = some (.bool (ng p.1)) ∧ xs[3 * j + 1]? = some (.slice A (zl p.1) c) ∧ xs[3 * j + 2]? = some (.slice B (len p.2) k) ∧ IsP w (.agg #[.bool (ng p.1), .slice A (zl p.1) c, .slice B (len p.2) k]) p.1 p.2
theorem OwnRa.nil (w : World) (B : Nat) : OwnRa w B (.slice none 0 0) [] := ⟨[], OwnC.nil w B _, fun j p h => by simp at h⟩
theorem OwnRa.below {w w' : World} {B : Nat} {v : Value} {l : List (Int × Nat)} (h : OwnRa w B v l) (hb : Below w.heap.size w w') : OwnRa w' B v l := by
  obtain ⟨xs, h1, h2⟩ := h
  refine ⟨xs, h1.below hb, fun j p hp => ?_⟩
  obtain ⟨A, c, B, k, a1, a2, a3, a4⟩ := h2 j p hp
  exact ⟨A, c, B, k, a1, a2, a3, a4.mono hb⟩
theorem OwnRa.blockGe {w : World} {B : Nat} {v : Value} {l : List (Int × Nat)} (h : OwnRa w B v l) : ∀ g, v.ownBlock = some g → B ≤ g := by
  obtain ⟨xs, h1, h2⟩ := h
  exact h1.blockGe
theorem OwnRa.row {w : World} {B : Nat} {v : Value} {l : List (Int × Nat)} (h : OwnRa w B v l) (h0 : 0 < l.length) : RowR w v l := by
  obtain ⟨xs, h1, h2⟩ := h
  obtain ⟨g, cap, rfl⟩ := Go.Joins.ownsRow_form h1.1 (by omega)
  refine ⟨g, cap, rfl, (h1.1.lt g rfl).2, fun j p hp => ?_⟩
  obtain ⟨A, c, B, k, a1, a2, a3, a4⟩ := h2 j p hp
  have hj : j < l.length := by
    rcases Nat.lt_or_ge j l.length with h | h
    · exact h
    · rw [List.getElem?_eq_none h] at hp; cases hp
  exact ⟨A, c, B, k, by rw [h1.1.cellAt _ (by omega)]; exact a1, by rw [h1.1.cellAt _ (by omega)]; exact a2, by rw [h1.1.cellAt _ (by omega)]; exact a3, a4⟩
/-- A slice of pairs of dyadics: what its elements stand for. -/
def RowI (w : World) (v : Value) (l : List (Int × Int × Int × Int)) : Prop := ∃ g c, v = .slice (some ⟨g, 0, none⟩) l.length c ∧ g < w.heap.size ∧ ∀ (j : Nat) (p : Int × Int × Int × Int), l[j]? = some p → ∃ A c B d, w.cell? ⟨g, 6 * j, none⟩ = some (.bool (ng p.1)) ∧ w.cell? ⟨g, 6 * j + 1, none⟩ = some (.slice A (zl p.1) c) ∧ w.cell? ⟨g, 6 * j + 2, none⟩ = some (.int .i64 p.2.1) ∧ w.cell? ⟨g, 6 * j + 3, none⟩ = some (.bool (ng p.2.2.1)) ∧ w.cell? ⟨g, 6 * j + 4, none⟩ = some (.slice B (zl p.2.2.1) d) ∧ w.cell? ⟨g, 6 * j + 5, none⟩ = some (.int .i64 p.2.2.2) ∧ IsN w (.slice A (zl p.1) c) p.1.natAbs ∧ IsN w (.slice B (zl p.2.2.1) d) p.2.2.1.natAbs
theorem RowI.at {w w' : World} {g c n : Nat} {l : List (Int × Int × Int × Int)} (h : RowI w (.slice (some ⟨g, 0, none⟩) n c) l) (hb : Below w.heap.size w w') {j : Nat} {p : Int × Int × Int × Int} (hp : l[j]? = some p) : ∃ A c B d, w'.cell? ⟨g, 6 * j, none⟩ = some (.bool (ng p.1)) ∧ w'.cell? ⟨g, 6 * j + 1, none⟩ = some (.slice A (zl p.1) c) ∧ w'.cell? ⟨g, 6 * j + 2, none⟩ = some (.int .i64 p.2.1) ∧ w'.cell? ⟨g, 6 * j + 3, none⟩ = some (.bool (ng p.2.2.1)) ∧ w'.cell? ⟨g, 6 * j + 4, none⟩ = some (.slice B (zl p.2.2.1) d) ∧ w'.cell? ⟨g, 6 * j + 5, none⟩ = some (.int .i64 p.2.2.2) ∧ IsN w' (.slice A (zl p.1) c) p.1.natAbs ∧ IsN w' (.slice B (zl p.2.2.1) d) p.2.2.1.natAbs := by
  obtain ⟨g', c', r, hg, h⟩ := h
  simp only [Value.slice.injEq, Option.some.injEq, Addr.mk.injEq, and_true] at r
  obtain ⟨rfl, _, _⟩ := r
  obtain ⟨A, c, B, d, h0, h1, h2, h3, h4, h5, h6, h7⟩ := h j p hp
  exact ⟨A, c, B, d, (hb.cell (p := ⟨g, 6 * j, none⟩) hg).trans h0, (hb.cell (p := ⟨g, 6 * j + 1, none⟩) hg).trans h1, (hb.cell (p := ⟨g, 6 * j + 2, none⟩) hg).trans h2, (hb.cell (p := ⟨g, 6 * j + 3, none⟩) hg).trans h3, (hb.cell (p := ⟨g, 6 * j + 4, none⟩) hg).trans h4, (hb.cell (p := ⟨g, 6 * j + 5, none⟩) hg).trans h5, h6.mono hb, h7.mono hb⟩
theorem lit3_cells (w : World) (a b c : Value) (ty : TypeId) (g : Nat) (hg : w.heap.size = g) : ∀ (j : Nat) (u : Value), [a, b, c][j]? = some u → (w.alloc (.cells #[a, b, c] ty)).cell? ⟨g, j, none⟩ = some u := fun j u hj => by
  subst hg
  rw [cell_of_row _ w.heap.size j #[a, b, c] ty _ (heap_alloc_new w _)]
  simpa using hj
theorem take_next {l : List (Int × Int × Int × Int)} {r : Int × Int × Int × Int → Int × Int} {t : Nat} {p : Int × Int × Int × Int} {q : Int × Int} (hp : l[t]? = some p) (hr : r p = q) : (l.map r).take (t + 1) = (l.map r).take t ++ [q] := by
  rw [List.take_add_one, List.getElem?_map, hp]
  simp [hr]
/-- The least and the greatest of the results. -/
theorem lst_is {l : List (Int × Int × Int × Int)} {r : Int × Int × Int × Int → Int × Int} {lo : Rat} {m e : Int} (h : (∃ p ∈ l, dOf (r p) = lo) ∧ ∀ p ∈ l, lo ≤ dOf (r p)) (hm : (m, e) ∈ l.map r) (hle : ∀ q ∈ l.map r, dOf (m, e) ≤ dOf q) : dq m e = lo := by
  obtain ⟨⟨p, hp, e1⟩, h2⟩ := h
  obtain ⟨q, hq, e2⟩ := List.mem_map.1 hm
  refine Rat.le_antisymm ?_ ?_
  · rw [← e1]; exact hle _ (List.mem_map.2 ⟨p, hp, rfl⟩)
  · have := h2 q hq
    rw [e2] at this
    exact this
theorem mst_is {l : List (Int × Int × Int × Int)} {r : Int × Int × Int × Int → Int × Int} {hi : Rat} {m e : Int} (h : (∃ p ∈ l, dOf (r p) = hi) ∧ ∀ p ∈ l, dOf (r p) ≤ hi) (hm : (m, e) ∈ l.map r) (hle : ∀ q ∈ l.map r, dOf q ≤ dOf (m, e)) : dq m e = hi := by
  obtain ⟨⟨p, hp, e1⟩, h2⟩ := h
  obtain ⟨q, hq, e2⟩ := List.mem_map.1 hm
  refine Rat.le_antisymm ?_ ?_
  · have := h2 q hq
    rw [e2] at this
    exact this
  · rw [← e1]; exact hle _ (List.mem_map.2 ⟨p, hp, rfl⟩)

set_option maxHeartbeats 16000000 in
theorem acomb_any (kop : Nat) (hen : ∀ args w, (callFunc kop args).run Tryz.prog w = .ok (.enter kop args) w) (l : List (Int × Int × Int × Int)) (r : Int × Int × Int × Int → Int × Int) (lo hi : Rat) (k : Int) (vl : Value) (w : World) (hl : RowI w vl l) (h0 : 0 < l.length) (hsz : l.length ≤ 1000) (hop : ∀ p ∈ l, ∀ vx vy W, IsD W vx p.1 p.2.1 → IsD W vy p.2.2.1 p.2.2.2 → Below w.heap.size w W → Calls Tryz.prog kop #[vx, vy] W (RetDE W (r p).1 (r p).2 0)) (hrb : ∀ p ∈ l, zl (r p).1 ≤ 500 ∧ (-10000 ≤ (r p).2 ∧ (r p).2 ≤ 10000)) (hlo : (∃ p ∈ l, dOf (r p) = lo) ∧ ∀ p ∈ l, lo ≤ dOf (r p)) (hhi : (∃ p ∈ l, dOf (r p) = hi) ∧ ∀ p ∈ l, dOf (r p) ≤ hi) (hk1 : -9223372036854775808 ≤ k) (hk2 : k ≤ 9223372036854775807) (hT : Tab w) :
    Calls Tryz.prog 66 #[.func (.func kop) #[] #[], .int .i64 k, vl] w (RetEn w lo hi k) := by
  obtain ⟨g, c, rfl, hg, _⟩ := id hl
  have HW0 := fun W => aperm_any k W
  have HROWI := Lib.hid hl
  have HOP := Lib.hid hop
  have HRB := Lib.hid hrb
  have HLO := Lib.hid hlo
  have HHI := Lib.hid hhi
  have HT := Lib.hid (fun W (hW : Below w.heap.size w W) => hT.mono hW)
  clear hl hop hrb hlo hhi hT
  cases hw : workB k
  · rw [hw] at HW0
    have HW := Lib.hid HW0
    have HWK := Lib.hid hw
    clear HW0 hw
    go_enter Tryz.func66, Tryz.ntmps66
    go_wp2_with fail
    have L := ((Lq.mk0 w).varI (w.heap.size) (by simp) false none 0 0 0 false none 0 0 0)
    have c00 := L.b0.c60
    have f00 := L.b0.fr 0
    have c01 := L.b0.c61
    have f01 := L.b0.fr 1
    have c02 := L.b0.c62
    have f02 := L.b0.fr 2
    have c03 := L.b0.c63
    have f03 := L.b0.fr 3
    have c04 := L.b0.c64
    have f04 := L.b0.fr 4
    have c05 := L.b0.c65
    have f05 := L.b0.fr 5
    (try go_wp2_with fail)
    refine (HW.out _).mono ?_
    rintro e9 w' ⟨rfl, rfl⟩
    (try go_wp2_with fail)
    exact bodyPost_ret (v := .tuple #[.agg #[.bool false, .slice none 0 0, .int .i64 0, .bool false, .slice none 0 0, .int .i64 0], .int .i64 1]) (by simp [results, Tryz.results66, go_sem, c00, c01, c02, c03, c04, c05]) rfl (by unfold RetEn; rw [if_neg (by rw [HWK.out]; decide)]; exact ⟨_, rfl, isI_zero _, L.below⟩)
  · rw [hw] at HW0
    have HW := Lib.hid HW0
    have HWK := Lib.hid hw
    obtain ⟨n, hn⟩ : ∃ n, l.length = n := ⟨_, rfl⟩
    rw [hn] at h0 hsz ⊢
    have HN := Lib.hid hn
    have hn0 : (0 : Int) < (n : Int) := by omega
    clear HW0 hw hn
    go_enter Tryz.func66, Tryz.ntmps66
    go_wp2_with fail
    have L := ((Lq.mk0 w).varI (w.heap.size) (by simp) false none 0 0 0 false none 0 0 0)
    have c00 := L.b0.c60
    have f00 := L.b0.fr 0
    have c01 := L.b0.c61
    have f01 := L.b0.fr 1
    have c02 := L.b0.c62
    have f02 := L.b0.fr 2
    have c03 := L.b0.c63
    have f03 := L.b0.fr 3
    have c04 := L.b0.c64
    have f04 := L.b0.fr 4
    have c05 := L.b0.c65
    have f05 := L.b0.fr 5
    (try go_wp2_with fail)
    refine (HW.out _).mono ?_
    rintro e9 w' ⟨rfl, rfl⟩
    (try go_wp2_with fail)
    clear c00 f00 c01 f01 c02 f02 c03 f03 c04 f04 c05 f05
    obtain ⟨V, hV⟩ : ∃ V, w.alloc (.cells #[.bool false, .slice none 0 0, .int .i64 0, .bool false, .slice none 0 0, .int .i64 0] 28) = V := ⟨_, rfl⟩
    rw [hV] at L ⊢
    clear hV
    have hwV := L.b0.lt
    have LL := Lib.hid L
    clear L
    go_loopw [8, 21] (fun s i wr => ∃ t : Nat, i = .int .i64 (t : Int) ∧ t ≤ n ∧ Below V.heap.size V wr ∧ OwnDy wr V.heap.size s ((l.map r).take t)) (fun _ i _ => n - (intOf i).toNat)
    case atStart => exact ⟨0, rfl, by omega, Below.refl _ _, OwnDy.nil _ _⟩
    case round =>
      obtain ⟨t, rfl, ht, hbe, hown⟩ := hrel
      have hbs := hbe.size
      rcases Nat.eq_or_lt_of_le ht with rfl | ht3
      · have hln := HN.out
        rw [List.take_of_length_le (by rw [List.length_map]; omega)] at hown
        have hrow := hown.row (by rw [List.length_map]; omega)
        have HMN := Lib.hid (fun W (hW : Below wr.heap.size wr W) => aminf_any (l.map r) _ W (hrow.mono hW) (by rw [List.length_map]; omega) (by rw [List.length_map]; omega) (fun q hq => by obtain ⟨p, hp, rfl⟩ := List.mem_map.1 hq; have := HRB.out p hp; omega))
        have HMX := Lib.hid (fun W (hW : Below wr.heap.size wr W) => amaxf_any (l.map r) _ W (hrow.mono hW) (by rw [List.length_map]; omega) (by rw [List.length_map]; omega) (fun q hq => by obtain ⟨p, hp, rfl⟩ := List.mem_map.1 hq; have := HRB.out p hp; omega))
        have L := LL.out.step hbe
        have hwr : w.heap.size < wr.heap.size := by omega
        clear hown hrow HROWI HOP hln
        go_wp2_with fail
        refine (HMN.out _ (Below.refl _ _)).mono ?_
        rintro e9 w1 ⟨v1, m1, e1, rfl, id, hm1, hle1, be⟩
        have be1 := be
        have x1 := lst_is HLO.out hm1 hle1
        have bd1 : zl m1 ≤ 500 ∧ (-10000 ≤ e1 ∧ e1 ≤ 10000) := by obtain ⟨p, hp, e9⟩ := List.mem_map.1 hm1; have := HRB.out p hp; rw [e9] at this; exact this
        obtain ⟨A8, c8, rfl, _, in9⟩ := id.form
        replace L := (L.step be).n in9
        clear id in9 be hm1 hle1
        go_wp2_with fail
        refine (HMX.out _ be1).mono ?_
        rintro e9 w2 ⟨v2, m2, e2, rfl, id, hm2, hle2, be⟩
        have x2 := mst_is HHI.out hm2 hle2
        have bd2 : zl m2 ≤ 500 ∧ (-10000 ≤ e2 ∧ e2 ≤ 10000) := by obtain ⟨p, hp, e9⟩ := List.mem_map.1 hm2; have := HRB.out p hp; rw [e9] at this; exact this
        obtain ⟨A9, c9, rfl, _, in9⟩ := id.form
        replace L := (L.step be).n in9
        have HEN := Lib.hid (fun v u W h1 h2 (hW : Below w.heap.size w W) => aenclD_any m1 e1 m2 e2 k v u W h1 h2 bd1.1 bd2.1 bd1.2 bd2.2 HWK.out (HT.out W hW))
        rw [x1, x2] at HEN
        clear id in9 be hm2 hle2 x1 x2 bd1 bd2 be1
        have hl2 := L.b0.lt
        replace L := (L.varD w2.heap.size rfl (ng m1) A8 (zl m1) c8 e1).varD (w2.heap.size + 1) (by simp) (ng m2) A9 (zl m2) c9 e2
        have c00 := L.b0.c30
        have c01 := L.b0.c31
        have c02 := L.b0.c32
        have c10 := L.tl.b0.c30
        have c11 := L.tl.b0.c31
        have c12 := L.tl.b0.c32
        go_wp2_with fail
        refine (HEN.out _ _ _ (isD_n (m := m1) (e := e1) (s := .slice A8 (zl m1) c8) (L.getN (by simp))) (isD_n (m := m2) (e := e2) (s := .slice A9 (zl m2) c9) (L.getN (by simp))) L.below).mono ?_
        intro e9 w19 hen
        obtain ⟨v19, er, m9, e9', n9, f9, rfl, ii, be, hback⟩ := hen.form
        obtain ⟨A5, c5, B5, d5, rfl, ia, ib⟩ := ii.form
        replace L := (((L.step be).n ib).n ia).pull2
        clear be ii ia ib hen
        have HBK := Lib.hid hback
        clear hback
        clear c00 c01 c02 c10 c11 c12
        have c00 := L.b0.c60
        have f00 := L.b0.fr 0
        have c01 := L.b0.c61
        have f01 := L.b0.fr 1
        have c02 := L.b0.c62
        have f02 := L.b0.fr 2
        have c03 := L.b0.c63
        have f03 := L.b0.fr 3
        have c04 := L.b0.c64
        have f04 := L.b0.fr 4
        have c05 := L.b0.c65
        have f05 := L.b0.fr 5
        go_wp2_with fail
        have LP := L.putI (by omega) (by first | (simp; done) | (simp; omega)) (ng m9) A5 (zl m9) c5 e9' (ng n9) B5 (zl n9) d5 f9
        have k0' := LP.b0.c60
        have k1' := LP.b0.c61
        have k2' := LP.b0.c62
        have k3' := LP.b0.c63
        have k4' := LP.b0.c64
        have k5' := LP.b0.c65
        unfold put6 at k0' k1' k2' k3' k4' k5'
        exact bodyPost_ret (v := .tuple #[.agg #[.bool (ng m9), .slice A5 (zl m9) c5, .int .i64 e9', .bool (ng n9), .slice B5 (zl n9) d5, .int .i64 f9], .int .i64 er]) (by simp [results, Tryz.results66, go_sem, k0', k1', k2', k3', k4', k5']) rfl (HBK.out _ _ _ (isI_n (LP.getN (by simp)) (LP.getN (by simp))) LP.below)
      · obtain ⟨⟨m, e, n', f'⟩, hp⟩ : ∃ p, l[t]? = some p := ⟨_, List.getElem?_eq_getElem (by rw [HN.out]; exact ht3)⟩
        obtain ⟨⟨M, E⟩, hr⟩ : ∃ q, r (m, e, n', f') = q := ⟨_, rfl⟩
        have HNX := Lib.hid (take_next hp hr)
        have hbw : Below w.heap.size w wr := LL.out.below.trans (hbe.mono LL.out.below.size)
        obtain ⟨A, c', B, d, y0, y1, y2, y3, y4, y5, i1, i2⟩ := HROWI.out.at hbw hp
        have HO2 := Lib.hid (fun v u W h1 h2 (hW : Below wr.heap.size wr W) => HOP.out _ (List.mem_of_getElem? hp) v u W h1 h2 (hbw.trans (hW.mono hbw.size)))
        dsimp only at y0 y1 y2 y3 y4 y5 i1 i2 HO2
        rw [hr] at HO2
        dsimp only at HO2
        rw [Nat.mul_comm 6 t] at y0 y1 y2 y3 y4 y5
        have HOWN := Lib.hid hown
        have hlt : (t : Int) < (n : Int) := by omega
        have htz : (0 : Int) ≤ (t : Int) := by omega
        clear hown hp hr
        have L := (((Lq.mk0 wr).n i2).n i1).var wr.heap.size rfl 88 #[.bool (ng m), .slice A (zl m) c', .int .i64 e, .bool (ng n'), .slice B (zl n') d, .int .i64 f'] (plain6 _ _ _ _ _ _ _ _ _ _)
        have c00 := L.b0.c60
        have c01 := L.b0.c61
        have c02 := L.b0.c62
        have c03 := L.b0.c63
        have c04 := L.b0.c64
        have c05 := L.b0.c65
        go_wp2_with fail
        clear y0 y1 y2 y3 y4 y5
        refine (HO2.out _ _ _ (isD_n (m := m) (e := e) (s := .slice A (zl m) c') (L.getN (by simp))) (isD_n (m := n') (e := f') (s := .slice B (zl n') d) (L.getN (by simp))) L.below).mono ?_
        rintro e w1 ⟨vv, rfl, id, be⟩
        clear c00 c01 c02 c03 c04 c05
        obtain ⟨A8, c8, rfl, _, in9⟩ := id.form
        replace L := (L.step be).n in9
        clear be id in9
        have hl8 := L.b0.lt
        replace L := L.varD w1.heap.size rfl (ng M) A8 (zl M) c8 E
        have c00 := L.b0.c30
        have c01 := L.b0.c31
        have c02 := L.b0.c32
        go_wp2_with (at_builtin; refine wp_appDy _ rfl _ _ rfl V.heap.size _ ((l.map r).take t) rfl (HOWN.out.below (L.below.alloc L.below.size _)) _ 1 rfl (lit3_cells _ _ _ _ _ _ (by simp)) ((L.getN (v := .slice A8 (zl M) c8) (x := M.natAbs) (by simp)).mono ((Below.refl _ _).alloc (Nat.le_refl _) _)) (by rw [List.length_take]; omega) (Nat.le_trans hbs (Nat.le_trans L.below.size (by simp))) ?_)
        intro v2 w2 h2 g2 _
        have b2 : Below V.heap.size V w2 := ((hbe.trans (L.below.mono hbs)).alloc (Nat.le_trans hbs L.below.size) _).grown g2 (Nat.le_trans hbs (Nat.le_trans L.below.size (by simp))) (fun k hk => HOWN.out.blockGe k hk)
        rw [← HNX.out] at h2
        clear c00 c01 c02
        clear L g2 HOWN HO2
        go_wp2_with fail
        go_roundw
        case rel => exact ⟨t + 1, by go_num, by omega, b2, h2⟩
        case measure => simp [intOf]; omega

theorem plainI_2 (m1 e1 n1 f1 : Int) (A1 B1 : Option Addr) (c1 d1 : Nat) (m2 e2 n2 f2 : Int) (A2 B2 : Option Addr) (c2 d2 : Nat) : Plain #[.bool (ng m1), .slice A1 (zl m1) c1, .int .i64 e1, .bool (ng n1), .slice B1 (zl n1) d1, .int .i64 f1, .bool (ng m2), .slice A2 (zl m2) c2, .int .i64 e2, .bool (ng n2), .slice B2 (zl n2) d2, .int .i64 f2] := fun j x => by
  match j with
  | 0 => simp
  | 1 => simp
  | 2 => simp
  | 3 => simp
  | 4 => simp
  | 5 => simp
  | 6 => simp
  | 7 => simp
  | 8 => simp
  | 9 => simp
  | 10 => simp
  | 11 => simp
  | j + 12 => simp
theorem rowI_2 {w : World} {g : Nat} {m1 e1 n1 f1 : Int} {A1 B1 : Option Addr} {c1 d1 : Nat} {m2 e2 n2 f2 : Int} {A2 B2 : Option Addr} {c2 d2 : Nat} (hv : Var w g 88 #[.bool (ng m1), .slice A1 (zl m1) c1, .int .i64 e1, .bool (ng n1), .slice B1 (zl n1) d1, .int .i64 f1, .bool (ng m2), .slice A2 (zl m2) c2, .int .i64 e2, .bool (ng n2), .slice B2 (zl n2) d2, .int .i64 f2]) (h1 : IsN w (.slice A1 (zl m1) c1) m1.natAbs) (g1 : IsN w (.slice B1 (zl n1) d1) n1.natAbs) (h2 : IsN w (.slice A2 (zl m2) c2) m2.natAbs) (g2 : IsN w (.slice B2 (zl n2) d2) n2.natAbs) : RowI w (.slice (some ⟨g, 0, none⟩) 2 2) [(m1, e1, n1, f1), (m2, e2, n2, f2)] := by
  refine ⟨g, 2, rfl, hv.lt, fun j p hp => ?_⟩
  match j with
  | 0 =>
    obtain rfl : (m1, e1, n1, f1) = p := by simpa using hp
    exact ⟨A1, c1, B1, d1, hv.cell 0, hv.cell 1, hv.cell 2, hv.cell 3, hv.cell 4, hv.cell 5, h1, g1⟩
  | 1 =>
    obtain rfl : (m2, e2, n2, f2) = p := by simpa using hp
    exact ⟨A2, c2, B2, d2, hv.cell 6, hv.cell 7, hv.cell 8, hv.cell 9, hv.cell 10, hv.cell 11, h2, g2⟩
  | j + 2 => simp at hp
theorem plainI_4 (m1 e1 n1 f1 : Int) (A1 B1 : Option Addr) (c1 d1 : Nat) (m2 e2 n2 f2 : Int) (A2 B2 : Option Addr) (c2 d2 : Nat) (m3 e3 n3 f3 : Int) (A3 B3 : Option Addr) (c3 d3 : Nat) (m4 e4 n4 f4 : Int) (A4 B4 : Option Addr) (c4 d4 : Nat) : Plain #[.bool (ng m1), .slice A1 (zl m1) c1, .int .i64 e1, .bool (ng n1), .slice B1 (zl n1) d1, .int .i64 f1, .bool (ng m2), .slice A2 (zl m2) c2, .int .i64 e2, .bool (ng n2), .slice B2 (zl n2) d2, .int .i64 f2, .bool (ng m3), .slice A3 (zl m3) c3, .int .i64 e3, .bool (ng n3), .slice B3 (zl n3) d3, .int .i64 f3, .bool (ng m4), .slice A4 (zl m4) c4, .int .i64 e4, .bool (ng n4), .slice B4 (zl n4) d4, .int .i64 f4] := fun j x => by
  match j with
  | 0 => simp
  | 1 => simp
  | 2 => simp
  | 3 => simp
  | 4 => simp
  | 5 => simp
  | 6 => simp
  | 7 => simp
  | 8 => simp
  | 9 => simp
  | 10 => simp
  | 11 => simp
  | 12 => simp
  | 13 => simp
  | 14 => simp
  | 15 => simp
  | 16 => simp
  | 17 => simp
  | 18 => simp
  | 19 => simp
  | 20 => simp
  | 21 => simp
  | 22 => simp
  | 23 => simp
  | j + 24 => simp
theorem rowI_4 {w : World} {g : Nat} {m1 e1 n1 f1 : Int} {A1 B1 : Option Addr} {c1 d1 : Nat} {m2 e2 n2 f2 : Int} {A2 B2 : Option Addr} {c2 d2 : Nat} {m3 e3 n3 f3 : Int} {A3 B3 : Option Addr} {c3 d3 : Nat} {m4 e4 n4 f4 : Int} {A4 B4 : Option Addr} {c4 d4 : Nat} (hv : Var w g 88 #[.bool (ng m1), .slice A1 (zl m1) c1, .int .i64 e1, .bool (ng n1), .slice B1 (zl n1) d1, .int .i64 f1, .bool (ng m2), .slice A2 (zl m2) c2, .int .i64 e2, .bool (ng n2), .slice B2 (zl n2) d2, .int .i64 f2, .bool (ng m3), .slice A3 (zl m3) c3, .int .i64 e3, .bool (ng n3), .slice B3 (zl n3) d3, .int .i64 f3, .bool (ng m4), .slice A4 (zl m4) c4, .int .i64 e4, .bool (ng n4), .slice B4 (zl n4) d4, .int .i64 f4]) (h1 : IsN w (.slice A1 (zl m1) c1) m1.natAbs) (g1 : IsN w (.slice B1 (zl n1) d1) n1.natAbs) (h2 : IsN w (.slice A2 (zl m2) c2) m2.natAbs) (g2 : IsN w (.slice B2 (zl n2) d2) n2.natAbs) (h3 : IsN w (.slice A3 (zl m3) c3) m3.natAbs) (g3 : IsN w (.slice B3 (zl n3) d3) n3.natAbs) (h4 : IsN w (.slice A4 (zl m4) c4) m4.natAbs) (g4 : IsN w (.slice B4 (zl n4) d4) n4.natAbs) : RowI w (.slice (some ⟨g, 0, none⟩) 4 4) [(m1, e1, n1, f1), (m2, e2, n2, f2), (m3, e3, n3, f3), (m4, e4, n4, f4)] := by
  refine ⟨g, 4, rfl, hv.lt, fun j p hp => ?_⟩
  match j with
  | 0 =>
    obtain rfl : (m1, e1, n1, f1) = p := by simpa using hp
    exact ⟨A1, c1, B1, d1, hv.cell 0, hv.cell 1, hv.cell 2, hv.cell 3, hv.cell 4, hv.cell 5, h1, g1⟩
  | 1 =>
    obtain rfl : (m2, e2, n2, f2) = p := by simpa using hp
    exact ⟨A2, c2, B2, d2, hv.cell 6, hv.cell 7, hv.cell 8, hv.cell 9, hv.cell 10, hv.cell 11, h2, g2⟩
  | 2 =>
    obtain rfl : (m3, e3, n3, f3) = p := by simpa using hp
    exact ⟨A3, c3, B3, d3, hv.cell 12, hv.cell 13, hv.cell 14, hv.cell 15, hv.cell 16, hv.cell 17, h3, g3⟩
  | 3 =>
    obtain rfl : (m4, e4, n4, f4) = p := by simpa using hp
    exact ⟨A4, c4, B4, d4, hv.cell 18, hv.cell 19, hv.cell 20, hv.cell 21, hv.cell 22, hv.cell 23, h4, g4⟩
  | j + 4 => simp at hp
theorem mk_fits3 {m e : Int} (h : zl m ≤ 500) (h1 : -60000 ≤ e) (h2 : e ≤ 40000) : mkR m e = 0 := by
  unfold mkR
  rw [if_neg (by omega)]
  by_cases h0 : m = 0
  · rw [if_pos h0]
  · rw [if_neg h0]
    have ht := tz_le8 m.natAbs (by omega)
    have e1 : zl m = len m.natAbs := rfl
    have hb : blen (oddM m).natAbs ≤ 65536 := by
      have := blen_le_len (oddM m).natAbs
      have h3 := zl_odd m
      have e2 : zl (oddM m) = len (oddM m).natAbs := rfl
      omega
    have ho : bitB (oddM m).natAbs 0 = true := by
      obtain ⟨k, hk⟩ := tz_form (x := m.natAbs) (by omega)
      have hd : m.natAbs / 2 ^ tz m.natAbs = 2 * k + 1 := by
        have := Nat.mul_div_cancel_left (2 * k + 1) (Nat.pow_pos (n := tz m.natAbs) (show 0 < 2 by omega))
        rwa [← hk] at this
      unfold bitB
      rw [oddM_abs, hd, Nat.pow_zero, Nat.div_one]
      exact decide_eq_true (by omega)
    have hf : fits8 (oddM m) (oddE m e) = true := by
      unfold fits8 oddE
      rw [decide_eq_true hb, decide_eq_true (by omega), decide_eq_true (by omega), ho]
      rfl
    rw [hf]
    rfl
theorem rle_of_eq {a b : Rat} (h : a = b) : a ≤ b := by rw [h]; exact Rat.le_refl
/-- What a sum of two short dyadics is, as combined wants it. -/
theorem sum_ok {m e n f : Int} (lm : zl m ≤ 25) (ln : zl n ≤ 25) (he : -3000 ≤ e ∧ e ≤ 3000) (hf : -3000 ≤ f ∧ f ≤ 3000) : mkR (addS m e n f) (min e f) = 0 ∧ zl (mkM (addS m e n f) (min e f)) ≤ 500 ∧ (-10000 ≤ mkE (addS m e n f) (min e f) ∧ mkE (addS m e n f) (min e f) ≤ 10000) ∧ dOf (mkM (addS m e n f) (min e f), mkE (addS m e n f) (min e f)) = dq m e + dq n f := by
  have z0 := zl_addS m e n f 3000 (by omega) (by omega)
  have r0 := mk_fits3 (m := addS m e n f) (e := min e f) (by omega) (by omega) (by omega)
  have z1 := zl_mk (addS m e n f) (min e f)
  have b1 := mkE_le (m := addS m e n f) (e := min e f) (K := 3000) (by omega) (by omega)
  exact ⟨r0, by omega, by omega, (dq_mk r0).trans (dq_add m e n f)⟩
theorem prod_ok {m e n f : Int} (lm : zl m ≤ 25) (ln : zl n ≤ 25) (he : -3000 ≤ e ∧ e ≤ 3000) (hf : -3000 ≤ f ∧ f ≤ 3000) : mkR (m * n) (e + f) = 0 ∧ zl (mkM (m * n) (e + f)) ≤ 500 ∧ (-10000 ≤ mkE (m * n) (e + f) ∧ mkE (m * n) (e + f) ≤ 10000) ∧ dOf (mkM (m * n) (e + f), mkE (m * n) (e + f)) = dq m e * dq n f := by
  have z0 := zl_mul m n
  have r0 := mk_fits3 (m := m * n) (e := e + f) (by omega) (by omega) (by omega)
  have z1 := zl_mk (m * n) (e + f)
  have b1 := mkE_le (m := m * n) (e := e + f) (K := 6000) (by omega) (by omega)
  exact ⟨r0, by omega, by omega, (dq_mk r0).trans (dq_mul m e n f)⟩
def addR (p : Int × Int × Int × Int) : Int × Int := (mkM (addS p.1 p.2.1 p.2.2.1 p.2.2.2) (min p.2.1 p.2.2.2), mkE (addS p.1 p.2.1 p.2.2.1 p.2.2.2) (min p.2.1 p.2.2.2))
def mulR (p : Int × Int × Int × Int) : Int × Int := (mkM (p.1 * p.2.2.1) (p.2.1 + p.2.2.2), mkE (p.1 * p.2.2.1) (p.2.1 + p.2.2.2))

set_option maxHeartbeats 16000000 in
theorem aadd_any (m e n f m2 e2 n2 f2 k : Int) (vx vy : Value) (w : World) (hx : IsI w vx m e n f) (hy : IsI w vy m2 e2 n2 f2) (lm : zl m ≤ 25) (ln : zl n ≤ 25) (lm2 : zl m2 ≤ 25) (ln2 : zl n2 ≤ 25) (he : -3000 ≤ e ∧ e ≤ 3000) (hf : -3000 ≤ f ∧ f ≤ 3000) (he2 : -3000 ≤ e2 ∧ e2 ≤ 3000) (hf2 : -3000 ≤ f2 ∧ f2 ≤ 3000) (hd1 : dcm m e n f ≤ 0) (hd2 : dcm m2 e2 n2 f2 ≤ 0) (hk1 : -9223372036854775808 ≤ k) (hk2 : k ≤ 9223372036854775807) (hT : Tab w) :
    Calls Tryz.prog 22 #[vx, vy, .int .i64 k] w (RetEn w (dq m e + dq m2 e2) (dq n f + dq n2 f2) k) := by
  obtain ⟨A, c, B, d, rfl, hn1, hn2⟩ := hx.form
  obtain ⟨A2, k2, B2, d2, rfl, hn3, hn4⟩ := hy.form
  have L0 := ((((Lq.mk0 w).n hn4).n hn3).n hn2).n hn1
  have hen : ∀ args w, (callFunc 44 args).run Tryz.prog w = .ok (.enter 44 args) w := enters_of Tryz.func44 (by kernel_rfl) rfl
  have k0 := sum_ok lm lm2 he he2
  have k1 := sum_ok ln ln2 hf hf2
  have hmem : ∀ (P : Int × Int × Int × Int → Prop), P (m, e, m2, e2) → P (n, f, n2, f2) → ∀ p ∈ [(m, e, m2, e2), (n, f, n2, f2)], P p := fun P q0 q1 p hp => by
    simp only [List.mem_cons, List.not_mem_nil, or_false] at hp
    rcases hp with rfl | rfl <;> assumption
  have hop : ∀ p ∈ [(m, e, m2, e2), (n, f, n2, f2)], ∀ vx vy W, IsD W vx p.1 p.2.1 → IsD W vy p.2.2.1 p.2.2.2 → Below w.heap.size w W → Calls Tryz.prog 44 #[vx, vy] W (RetDE W (addR p).1 (addR p).2 0) := hmem _
    (fun vx vy W h1 h2 hW => by have := dadd_any m e m2 e2 vx vy W h1 h2 (by omega) (by omega) (by omega) (by omega) (hT.mono hW); rw [k0.1] at this; exact this)
    (fun vx vy W h1 h2 hW => by have := dadd_any n f n2 f2 vx vy W h1 h2 (by omega) (by omega) (by omega) (by omega) (hT.mono hW); rw [k1.1] at this; exact this)
  have hrb : ∀ p ∈ [(m, e, m2, e2), (n, f, n2, f2)], zl (addR p).1 ≤ 500 ∧ (-10000 ≤ (addR p).2 ∧ (addR p).2 ≤ 10000) := hmem _ ⟨k0.2.1, k0.2.2.1⟩ ⟨k1.2.1, k1.2.2.1⟩
  have hle1 := (dcm_le _ _ _ _).1 hd1
  have hle2 := (dcm_le _ _ _ _).1 hd2
  have hle := add_mono hle1 hle2
  have hlo : (∃ p ∈ [(m, e, m2, e2), (n, f, n2, f2)], dOf (addR p) = dq m e + dq m2 e2) ∧ ∀ p ∈ [(m, e, m2, e2), (n, f, n2, f2)], dq m e + dq m2 e2 ≤ dOf (addR p) := ⟨⟨(m, e, m2, e2), by simp, k0.2.2.2⟩, hmem _ (rle_of_eq k0.2.2.2.symm) (by rw [show dOf (addR (n, f, n2, f2)) = dq n f + dq n2 f2 from k1.2.2.2]; exact hle)⟩
  have hhi : (∃ p ∈ [(m, e, m2, e2), (n, f, n2, f2)], dOf (addR p) = dq n f + dq n2 f2) ∧ ∀ p ∈ [(m, e, m2, e2), (n, f, n2, f2)], dOf (addR p) ≤ dq n f + dq n2 f2 := ⟨⟨(n, f, n2, f2), by simp, k1.2.2.2⟩, hmem _ (by rw [show dOf (addR (m, e, m2, e2)) = dq m e + dq m2 e2 from k0.2.2.2]; exact hle) (rle_of_eq k1.2.2.2)⟩
  obtain ⟨lo, hlo9⟩ : ∃ x, dq m e + dq m2 e2 = x := ⟨_, rfl⟩
  obtain ⟨hi, hhi9⟩ : ∃ x, dq n f + dq n2 f2 = x := ⟨_, rfl⟩
  rw [hlo9] at hlo ⊢
  rw [hhi9] at hhi ⊢
  have HC := Lib.hid (fun vl W (h : RowI W vl [(m, e, m2, e2), (n, f, n2, f2)]) (hW : Below w.heap.size w W) => acomb_any 44 hen [(m, e, m2, e2), (n, f, n2, f2)] addR lo hi k vl W h (by simp) (by simp) (fun p hp vx vy W2 h1 h2 h3 => hop p hp vx vy W2 h1 h2 (hW.trans (h3.mono hW.size))) hrb hlo hhi hk1 hk2 (hT.mono hW))
  clear hen hop hrb hlo hhi hlo9 hhi9 hmem k0 k1 hx hy hn1 hn2 hn3 hn4 lm ln lm2 ln2 he hf he2 hf2 hd1 hd2 hk1 hk2 hT hle hle1 hle2
  go_enter Tryz.func22, Tryz.ntmps22
  go_wp2_with fail
  have L := (((L0.varI (w.heap.size) (by simp) (ng m) A (zl m) c e (ng n) B (zl n) d f).varI (w.heap.size + 1) (by simp) (ng m2) A2 (zl m2) k2 e2 (ng n2) B2 (zl n2) d2 f2).varI (w.heap.size + 2) (by simp) false none 0 0 0 false none 0 0 0)
  have c00 := L.b0.c60
  have c01 := L.b0.c61
  have c02 := L.b0.c62
  have c03 := L.b0.c63
  have c04 := L.b0.c64
  have c05 := L.b0.c65
  have c10 := L.tl.b0.c60
  have c11 := L.tl.b0.c61
  have c12 := L.tl.b0.c62
  have c13 := L.tl.b0.c63
  have c14 := L.tl.b0.c64
  have c15 := L.tl.b0.c65
  have c20 := L.tl.tl.b0.c60
  have c21 := L.tl.tl.b0.c61
  have c22 := L.tl.tl.b0.c62
  have c23 := L.tl.tl.b0.c63
  have c24 := L.tl.tl.b0.c64
  have c25 := L.tl.tl.b0.c65
  go_wp2_with fail
  clear c00 c01 c02 c03 c04 c05 c10 c11 c12 c13 c14 c15 c20 c21 c22 c23 c24 c25
  replace L := L.var (w.heap.size + 3) (by simp) 88 #[.bool (ng m), .slice A (zl m) c, .int .i64 e, .bool (ng m2), .slice A2 (zl m2) k2, .int .i64 e2, .bool (ng n), .slice B (zl n) d, .int .i64 f, .bool (ng n2), .slice B2 (zl n2) d2, .int .i64 f2] (plainI_2 _ _ _ _ _ _ _ _ _ _ _ _ _ _ _ _)
  obtain ⟨gl, hgl⟩ : ∃ gl, w.heap.size + 1 + 1 + 1 = gl := ⟨_, rfl⟩
  have hgl2 : w.heap.size + 3 = gl := hgl
  obtain ⟨gr, hgr⟩ : ∃ gr, w.heap.size + 1 + 1 = gr := ⟨_, rfl⟩
  have hgr2 : w.heap.size + 2 = gr := hgr
  rw [hgl2, hgr2] at L
  rw [hgl, hgr]
  have hgl3 : w.heap.size + 2 < gl := by omega
  have hgr3 : w.heap.size + 1 < gr := by omega
  have hgl4 : gr < gl := by omega
  clear hgl hgl2 hgr hgr2
  refine (HC.out _ _ (rowI_2 L.b0 (L.getN (v := .slice A (zl m) c) (x := (m).natAbs) (by simp)) (L.getN (v := .slice A2 (zl m2) k2) (x := (m2).natAbs) (by simp)) (L.getN (v := .slice B (zl n) d) (x := (n).natAbs) (by simp)) (L.getN (v := .slice B2 (zl n2) d2) (x := (n2).natAbs) (by simp))) L.below).mono ?_
  intro e9 w19 hen
  obtain ⟨v19, er, m9, e9', n9, f9, rfl, ii, be, hback⟩ := hen.form
  obtain ⟨A5, c5, B5, d5, rfl, ia, ib⟩ := ii.form
  replace L := (((L.step be).n ib).n ia).swap
  clear be ii ia ib hen
  have HBK := Lib.hid hback
  clear hback
  have c00 := L.b0.c60
  have f00 := L.b0.fr 0
  have c01 := L.b0.c61
  have f01 := L.b0.fr 1
  have c02 := L.b0.c62
  have f02 := L.b0.fr 2
  have c03 := L.b0.c63
  have f03 := L.b0.fr 3
  have c04 := L.b0.c64
  have f04 := L.b0.fr 4
  have c05 := L.b0.c65
  have f05 := L.b0.fr 5
  go_wp2_with fail
  have LP := L.putI (by omega) (by first | (simp; done) | (simp; omega)) (ng m9) A5 (zl m9) c5 e9' (ng n9) B5 (zl n9) d5 f9
  have k0' := LP.b0.c60
  have k1' := LP.b0.c61
  have k2' := LP.b0.c62
  have k3' := LP.b0.c63
  have k4' := LP.b0.c64
  have k5' := LP.b0.c65
  unfold put6 at k0' k1' k2' k3' k4' k5'
  exact bodyPost_ret (v := .tuple #[.agg #[.bool (ng m9), .slice A5 (zl m9) c5, .int .i64 e9', .bool (ng n9), .slice B5 (zl n9) d5, .int .i64 f9], .int .i64 er]) (by simp [results, Tryz.results22, go_sem, k0', k1', k2', k3', k4', k5']) rfl (HBK.out _ _ _ (isI_n (LP.getN (by simp)) (LP.getN (by simp))) LP.below)
set_option maxHeartbeats 16000000 in
theorem amul_any (m e n f m2 e2 n2 f2 k : Int) (vx vy : Value) (w : World) (hx : IsI w vx m e n f) (hy : IsI w vy m2 e2 n2 f2) (lm : zl m ≤ 25) (ln : zl n ≤ 25) (lm2 : zl m2 ≤ 25) (ln2 : zl n2 ≤ 25) (he : -3000 ≤ e ∧ e ≤ 3000) (hf : -3000 ≤ f ∧ f ≤ 3000) (he2 : -3000 ≤ e2 ∧ e2 ≤ 3000) (hf2 : -3000 ≤ f2 ∧ f2 ≤ 3000) (hd1 : dcm m e n f ≤ 0) (hd2 : dcm m2 e2 n2 f2 ≤ 0) (hk1 : -9223372036854775808 ≤ k) (hk2 : k ≤ 9223372036854775807) (hT : Tab w) :
    Calls Tryz.prog 21 #[vx, vy, .int .i64 k] w (RetEn w (min4 (dq m e * dq m2 e2) (dq m e * dq n2 f2) (dq n f * dq m2 e2) (dq n f * dq n2 f2)) (max4 (dq m e * dq m2 e2) (dq m e * dq n2 f2) (dq n f * dq m2 e2) (dq n f * dq n2 f2)) k) := by
  obtain ⟨A, c, B, d, rfl, hn1, hn2⟩ := hx.form
  obtain ⟨A2, k2, B2, d2, rfl, hn3, hn4⟩ := hy.form
  have L0 := ((((Lq.mk0 w).n hn4).n hn3).n hn2).n hn1
  have hen : ∀ args w, (callFunc 67 args).run Tryz.prog w = .ok (.enter 67 args) w := enters_of Tryz.func67 (by kernel_rfl) rfl
  have k0 := prod_ok lm lm2 he he2
  have k1 := prod_ok lm ln2 he hf2
  have k2 := prod_ok ln lm2 hf he2
  have k3 := prod_ok ln ln2 hf hf2
  have hmem : ∀ (P : Int × Int × Int × Int → Prop), P (m, e, m2, e2) → P (m, e, n2, f2) → P (n, f, m2, e2) → P (n, f, n2, f2) → ∀ p ∈ [(m, e, m2, e2), (m, e, n2, f2), (n, f, m2, e2), (n, f, n2, f2)], P p := fun P q0 q1 q2 q3 p hp => by
    simp only [List.mem_cons, List.not_mem_nil, or_false] at hp
    rcases hp with rfl | rfl | rfl | rfl <;> assumption
  have hop : ∀ p ∈ [(m, e, m2, e2), (m, e, n2, f2), (n, f, m2, e2), (n, f, n2, f2)], ∀ vx vy W, IsD W vx p.1 p.2.1 → IsD W vy p.2.2.1 p.2.2.2 → Below w.heap.size w W → Calls Tryz.prog 67 #[vx, vy] W (RetDE W (mulR p).1 (mulR p).2 0) := hmem _
    (fun vx vy W h1 h2 hW => by have := dmul_any m e m2 e2 vx vy W h1 h2 (by omega) (by omega) (by omega) (by omega) (hT.mono hW); rw [k0.1] at this; exact this)
    (fun vx vy W h1 h2 hW => by have := dmul_any m e n2 f2 vx vy W h1 h2 (by omega) (by omega) (by omega) (by omega) (hT.mono hW); rw [k1.1] at this; exact this)
    (fun vx vy W h1 h2 hW => by have := dmul_any n f m2 e2 vx vy W h1 h2 (by omega) (by omega) (by omega) (by omega) (hT.mono hW); rw [k2.1] at this; exact this)
    (fun vx vy W h1 h2 hW => by have := dmul_any n f n2 f2 vx vy W h1 h2 (by omega) (by omega) (by omega) (by omega) (hT.mono hW); rw [k3.1] at this; exact this)
  have hrb : ∀ p ∈ [(m, e, m2, e2), (m, e, n2, f2), (n, f, m2, e2), (n, f, n2, f2)], zl (mulR p).1 ≤ 500 ∧ (-10000 ≤ (mulR p).2 ∧ (mulR p).2 ≤ 10000) := hmem _ ⟨k0.2.1, k0.2.2.1⟩ ⟨k1.2.1, k1.2.2.1⟩ ⟨k2.2.1, k2.2.2.1⟩ ⟨k3.2.1, k3.2.2.1⟩
  have j0 : dOf (mulR (m, e, m2, e2)) = dq m e * dq m2 e2 := k0.2.2.2
  have j1 : dOf (mulR (m, e, n2, f2)) = dq m e * dq n2 f2 := k1.2.2.2
  have j2 : dOf (mulR (n, f, m2, e2)) = dq n f * dq m2 e2 := k2.2.2.2
  have j3 : dOf (mulR (n, f, n2, f2)) = dq n f * dq n2 f2 := k3.2.2.2
  obtain ⟨a1, a2, a3, a4⟩ := min4_le (dq m e * dq m2 e2) (dq m e * dq n2 f2) (dq n f * dq m2 e2) (dq n f * dq n2 f2)
  obtain ⟨b1, b2, b3, b4⟩ := le_max4 (dq m e * dq m2 e2) (dq m e * dq n2 f2) (dq n f * dq m2 e2) (dq n f * dq n2 f2)
  have hlo : (∃ p ∈ [(m, e, m2, e2), (m, e, n2, f2), (n, f, m2, e2), (n, f, n2, f2)], dOf (mulR p) = min4 (dq m e * dq m2 e2) (dq m e * dq n2 f2) (dq n f * dq m2 e2) (dq n f * dq n2 f2)) ∧ ∀ p ∈ [(m, e, m2, e2), (m, e, n2, f2), (n, f, m2, e2), (n, f, n2, f2)], min4 (dq m e * dq m2 e2) (dq m e * dq n2 f2) (dq n f * dq m2 e2) (dq n f * dq n2 f2) ≤ dOf (mulR p) := by
    refine ⟨?_, hmem _ (by rw [j0]; exact a1) (by rw [j1]; exact a2) (by rw [j2]; exact a3) (by rw [j3]; exact a4)⟩
    rcases min4_or (dq m e * dq m2 e2) (dq m e * dq n2 f2) (dq n f * dq m2 e2) (dq n f * dq n2 f2) with h | h | h | h <;> rw [h]
    · exact ⟨(m, e, m2, e2), by simp, j0⟩
    · exact ⟨(m, e, n2, f2), by simp, j1⟩
    · exact ⟨(n, f, m2, e2), by simp, j2⟩
    · exact ⟨(n, f, n2, f2), by simp, j3⟩
  have hhi : (∃ p ∈ [(m, e, m2, e2), (m, e, n2, f2), (n, f, m2, e2), (n, f, n2, f2)], dOf (mulR p) = max4 (dq m e * dq m2 e2) (dq m e * dq n2 f2) (dq n f * dq m2 e2) (dq n f * dq n2 f2)) ∧ ∀ p ∈ [(m, e, m2, e2), (m, e, n2, f2), (n, f, m2, e2), (n, f, n2, f2)], dOf (mulR p) ≤ max4 (dq m e * dq m2 e2) (dq m e * dq n2 f2) (dq n f * dq m2 e2) (dq n f * dq n2 f2) := by
    refine ⟨?_, hmem _ (by rw [j0]; exact b1) (by rw [j1]; exact b2) (by rw [j2]; exact b3) (by rw [j3]; exact b4)⟩
    rcases max4_or (dq m e * dq m2 e2) (dq m e * dq n2 f2) (dq n f * dq m2 e2) (dq n f * dq n2 f2) with h | h | h | h <;> rw [h]
    · exact ⟨(m, e, m2, e2), by simp, j0⟩
    · exact ⟨(m, e, n2, f2), by simp, j1⟩
    · exact ⟨(n, f, m2, e2), by simp, j2⟩
    · exact ⟨(n, f, n2, f2), by simp, j3⟩
  obtain ⟨lo, hlo9⟩ : ∃ x, min4 (dq m e * dq m2 e2) (dq m e * dq n2 f2) (dq n f * dq m2 e2) (dq n f * dq n2 f2) = x := ⟨_, rfl⟩
  obtain ⟨hi, hhi9⟩ : ∃ x, max4 (dq m e * dq m2 e2) (dq m e * dq n2 f2) (dq n f * dq m2 e2) (dq n f * dq n2 f2) = x := ⟨_, rfl⟩
  rw [hlo9] at hlo ⊢
  rw [hhi9] at hhi ⊢
  have HC := Lib.hid (fun vl W (h : RowI W vl [(m, e, m2, e2), (m, e, n2, f2), (n, f, m2, e2), (n, f, n2, f2)]) (hW : Below w.heap.size w W) => acomb_any 67 hen [(m, e, m2, e2), (m, e, n2, f2), (n, f, m2, e2), (n, f, n2, f2)] mulR lo hi k vl W h (by simp) (by simp) (fun p hp vx vy W2 h1 h2 h3 => hop p hp vx vy W2 h1 h2 (hW.trans (h3.mono hW.size))) hrb hlo hhi hk1 hk2 (hT.mono hW))
  clear hen hop hrb hlo hhi hlo9 hhi9 hmem k0 k1 k2 k3 hx hy hn1 hn2 hn3 hn4 lm ln lm2 ln2 he hf he2 hf2 hd1 hd2 hk1 hk2 hT j0 j1 j2 j3 a1 a2 a3 a4 b1 b2 b3 b4
  go_enter Tryz.func21, Tryz.ntmps21
  go_wp2_with fail
  have L := (((L0.varI (w.heap.size) (by simp) (ng m) A (zl m) c e (ng n) B (zl n) d f).varI (w.heap.size + 1) (by simp) (ng m2) A2 (zl m2) k2 e2 (ng n2) B2 (zl n2) d2 f2).varI (w.heap.size + 2) (by simp) false none 0 0 0 false none 0 0 0)
  have c00 := L.b0.c60
  have c01 := L.b0.c61
  have c02 := L.b0.c62
  have c03 := L.b0.c63
  have c04 := L.b0.c64
  have c05 := L.b0.c65
  have c10 := L.tl.b0.c60
  have c11 := L.tl.b0.c61
  have c12 := L.tl.b0.c62
  have c13 := L.tl.b0.c63
  have c14 := L.tl.b0.c64
  have c15 := L.tl.b0.c65
  have c20 := L.tl.tl.b0.c60
  have c21 := L.tl.tl.b0.c61
  have c22 := L.tl.tl.b0.c62
  have c23 := L.tl.tl.b0.c63
  have c24 := L.tl.tl.b0.c64
  have c25 := L.tl.tl.b0.c65
  go_wp2_with fail
  clear c00 c01 c02 c03 c04 c05 c10 c11 c12 c13 c14 c15 c20 c21 c22 c23 c24 c25
  replace L := L.var (w.heap.size + 3) (by simp) 88 #[.bool (ng m), .slice A (zl m) c, .int .i64 e, .bool (ng m2), .slice A2 (zl m2) k2, .int .i64 e2, .bool (ng m), .slice A (zl m) c, .int .i64 e, .bool (ng n2), .slice B2 (zl n2) d2, .int .i64 f2, .bool (ng n), .slice B (zl n) d, .int .i64 f, .bool (ng m2), .slice A2 (zl m2) k2, .int .i64 e2, .bool (ng n), .slice B (zl n) d, .int .i64 f, .bool (ng n2), .slice B2 (zl n2) d2, .int .i64 f2] (plainI_4 _ _ _ _ _ _ _ _ _ _ _ _ _ _ _ _ _ _ _ _ _ _ _ _ _ _ _ _ _ _ _ _)
  obtain ⟨gl, hgl⟩ : ∃ gl, w.heap.size + 1 + 1 + 1 = gl := ⟨_, rfl⟩
  have hgl2 : w.heap.size + 3 = gl := hgl
  obtain ⟨gr, hgr⟩ : ∃ gr, w.heap.size + 1 + 1 = gr := ⟨_, rfl⟩
  have hgr2 : w.heap.size + 2 = gr := hgr
  rw [hgl2, hgr2] at L
  rw [hgl, hgr]
  have hgl3 : w.heap.size + 2 < gl := by omega
  have hgr3 : w.heap.size + 1 < gr := by omega
  have hgl4 : gr < gl := by omega
  clear hgl hgl2 hgr hgr2
  refine (HC.out _ _ (rowI_4 L.b0 (L.getN (v := .slice A (zl m) c) (x := (m).natAbs) (by simp)) (L.getN (v := .slice A2 (zl m2) k2) (x := (m2).natAbs) (by simp)) (L.getN (v := .slice A (zl m) c) (x := (m).natAbs) (by simp)) (L.getN (v := .slice B2 (zl n2) d2) (x := (n2).natAbs) (by simp)) (L.getN (v := .slice B (zl n) d) (x := (n).natAbs) (by simp)) (L.getN (v := .slice A2 (zl m2) k2) (x := (m2).natAbs) (by simp)) (L.getN (v := .slice B (zl n) d) (x := (n).natAbs) (by simp)) (L.getN (v := .slice B2 (zl n2) d2) (x := (n2).natAbs) (by simp))) L.below).mono ?_
  intro e9 w19 hen
  obtain ⟨v19, er, m9, e9', n9, f9, rfl, ii, be, hback⟩ := hen.form
  obtain ⟨A5, c5, B5, d5, rfl, ia, ib⟩ := ii.form
  replace L := (((L.step be).n ib).n ia).swap
  clear be ii ia ib hen
  have HBK := Lib.hid hback
  clear hback
  have c00 := L.b0.c60
  have f00 := L.b0.fr 0
  have c01 := L.b0.c61
  have f01 := L.b0.fr 1
  have c02 := L.b0.c62
  have f02 := L.b0.fr 2
  have c03 := L.b0.c63
  have f03 := L.b0.fr 3
  have c04 := L.b0.c64
  have f04 := L.b0.fr 4
  have c05 := L.b0.c65
  have f05 := L.b0.fr 5
  go_wp2_with fail
  have LP := L.putI (by omega) (by first | (simp; done) | (simp; omega)) (ng m9) A5 (zl m9) c5 e9' (ng n9) B5 (zl n9) d5 f9
  have k0' := LP.b0.c60
  have k1' := LP.b0.c61
  have k2' := LP.b0.c62
  have k3' := LP.b0.c63
  have k4' := LP.b0.c64
  have k5' := LP.b0.c65
  unfold put6 at k0' k1' k2' k3' k4' k5'
  exact bodyPost_ret (v := .tuple #[.agg #[.bool (ng m9), .slice A5 (zl m9) c5, .int .i64 e9', .bool (ng n9), .slice B5 (zl n9) d5, .int .i64 f9], .int .i64 er]) (by simp [results, Tryz.results21, go_sem, k0', k1', k2', k3', k4', k5']) rfl (HBK.out _ _ _ (isI_n (LP.getN (by simp)) (LP.getN (by simp))) LP.below)
/-- The quotient of two dyadics as a pair. -/
def qtA (m e n f : Int) : Int := if m = 0 then 0 else (Rat.divInt m n).num * 2 ^ (e - f).toNat
def qtD (m e n f : Int) : Nat := if m = 0 then 1 else (Rat.divInt m n).den * 2 ^ (f - e).toNat
theorem qt_pos (m e n f : Int) : 0 < qtD m e n f := by
  unfold qtD
  split
  · omega
  · exact Nat.mul_pos (Rat.den_pos _) (Nat.pow_pos (by omega))
theorem dq_pow (m e : Int) : dq m e = (m : Rat) * dq 1 e := dq_scale m e
theorem dq_one_sub (e f : Int) : dq 1 (e - f) * dq 1 f = dq 1 e := by
  rw [← dq_mul, Int.mul_one]
  congr 1
  omega
theorem divInt_mul_r (a : Int) (d : Nat) (x y : Nat) (hx : 0 < x) (hy : 0 < y) (hd : 0 < d) : Rat.divInt (a * (x : Int)) ((d * y : Nat) : Int) = Rat.divInt a (d : Int) * Rat.divInt (x : Int) (y : Int) := by
  rw [Rat.divInt_mul_divInt]
  congr 1
theorem qt_val {m e n f : Int} (hn : n ≠ 0) : Rat.divInt (qtA m e n f) (qtD m e n f : Int) = dq m e / dq n f := by
  have hn0 : (n : Rat) ≠ 0 := fun h => hn (Rat.intCast_eq_zero_iff.1 h)
  have hp := dq_pos f
  have hpn : dq 1 f ≠ 0 := fun h => by rw [h] at hp; exact Rat.not_le.2 hp Rat.le_refl
  by_cases h0 : m = 0
  · unfold qtA qtD
    rw [if_pos h0, if_pos h0, h0, dq_pow 0 e, Rat.intCast_zero, Rat.zero_mul, Rat.div_def, Rat.zero_mul]
    rfl
  · unfold qtA qtD
    rw [if_neg h0, if_neg h0]
    have e1 : (2 : Int) ^ (e - f).toNat = ((2 ^ (e - f).toNat : Nat) : Int) := (cast2 _).symm
    rw [e1, divInt_mul_r _ _ _ _ (Nat.pow_pos (by omega)) (Nat.pow_pos (by omega)) (Rat.den_pos _), Rat.num_divInt_den]
    have e2 : Rat.divInt ((2 ^ (e - f).toNat : Nat) : Int) ((2 ^ (f - e).toNat : Nat) : Int) = dq 1 (e - f) := by
      unfold dq
      rw [Int.one_mul, cast2, show -(e - f) = f - e from by omega]
    rw [e2, dq_pow m e, dq_pow n f, ← dq_one_sub e f, Rat.div_def, Rat.inv_mul_rev]
    have e3 : Rat.divInt m n = (m : Rat) * (n : Rat)⁻¹ := by rw [← Rat.div_def]; exact Rat.divInt_eq_div m n
    rw [e3]
    have e4 : dq 1 f * (dq 1 f)⁻¹ = 1 := Rat.mul_inv_cancel _ hpn
    rw [show (m : Rat) * (dq 1 (e - f) * dq 1 f) * ((dq 1 f)⁻¹ * (n : Rat)⁻¹) = (m : Rat) * (dq 1 (e - f) * (dq 1 f * (dq 1 f)⁻¹) * (n : Rat)⁻¹) from by simp only [Rat.mul_assoc], e4, Rat.mul_one, Rat.mul_assoc, Rat.mul_comm (n : Rat)⁻¹]
theorem qt_low {m n : Int} (hn : n ≠ 0) : zl (Rat.divInt m n).num ≤ zl m ∧ len (Rat.divInt m n).den ≤ zl n := by
  obtain ⟨e1, e2⟩ := divInt_pair m n hn
  constructor
  · unfold zl
    rw [e1]
    exact len_mono (by rw [sg_abs]; exact Nat.div_le_self _ _)
  · unfold zl
    rw [e2]
    exact len_mono (Nat.div_le_self _ _)
theorem qt_small {m e n f : Int} (hn : n ≠ 0) (lm : zl m ≤ 140) (ln : zl n ≤ 140) (he : -4500 ≤ e ∧ e ≤ 4500) (hf : -4500 ≤ f ∧ f ≤ 4500) : zl (qtA m e n f) ≤ 800 ∧ len (qtD m e n f) ≤ 800 := by
  obtain ⟨h1, h2⟩ := qt_low (m := m) hn
  unfold qtA qtD
  constructor
  · split
    · rw [zl_zero]; omega
    · have := zl_two (Rat.divInt m n).num (e - f).toNat
      omega
  · split
    · have := len_le1 (show 1 < 4294967296 by omega)
      omega
    · have h3 := len_mul (Rat.divInt m n).den (2 ^ (f - e).toNat)
      have h4 := len_two (f - e).toNat
      omega

set_option maxHeartbeats 4000000 in
theorem anum_any (z e : Int) (vx : Value) (w : World) (hx : IsZ w vx z) (lz : zl z ≤ 1000) (he : -20000 ≤ e ∧ e ≤ 20000) :
    Calls Tryz.prog 198 #[vx, .int .i64 e] w (RetZ w (z * 2 ^ e.toNat)) := by
  obtain ⟨A, c, rfl, _⟩ := hx.form
  have L0 := (Lq.mk0 w).z hx
  have HR := Lib.hid (fun v W h => drat_any z e v W h (by omega) (by omega))
  have hfd : ∀ (x : Bool) (E F : Option Addr) (n1 n2 n3 n4 : Nat) (W : World), (Instr.field 53 (.agg #[.bool x, .slice E n1 n2, .slice F n3 n4]) 0).run Tryz.prog W = .ok (.agg #[.bool x, .slice E n1 n2]) W := fun _ _ _ _ _ _ _ _ => by kernel_rfl
  generalize z * 2 ^ e.toNat = a at *
  generalize 2 ^ (-e).toNat = d at *
  clear hx lz he
  go_enter Tryz.func198, Tryz.ntmps198
  go_wp2_with fail
  have L := ((L0.varZ (w.heap.size) (by simp) (ng z) A (zl z) c).varZ (w.heap.size + 1) (by simp) false none 0 0)
  have c00 := L.b0.c20
  have f00 := L.b0.fr 0
  have c01 := L.b0.c21
  have f01 := L.b0.fr 1
  have c10 := L.tl.b0.c20
  have c11 := L.tl.b0.c21
  (try go_wp2_with fail)
  refine (HR.out _ _ (isD_z (L.getZ (v := .agg #[.bool (ng z), .slice A (zl z) c]) (by simp)))).mono ?_
  rintro e w1 ⟨vq, rfl, iq, be⟩
  clear c00 f00 c01 f01 c10 c11
  obtain ⟨A9, c9, B9, k9, rfl, iz9, _, _⟩ := iq.form
  replace L := (L.step be).z iz9
  clear be iq iz9
  have c00 := L.b0.c20
  have f00 := L.b0.fr 0
  have c01 := L.b0.c21
  have f01 := L.b0.fr 1
  have c10 := L.tl.b0.c20
  have c11 := L.tl.b0.c21
  (try go_wp2_with fail)
  have LP := L.putZ (by omega) (by first | (simp; done) | (simp; omega)) (ng a) A9 (zl a) c9
  have k0 := LP.b0.c20
  have k1 := LP.b0.c21
  unfold put2 at k0 k1
  exact bodyPost_ret (v := .agg #[.bool (ng a), .slice A9 (zl a) c9]) (by simp [results, Tryz.results198, go_sem, k0, k1]) rfl ⟨_, rfl, LP.getZ (by simp), LP.below⟩
set_option maxHeartbeats 4000000 in
theorem absign_any (m e n f n2 f2 : Int) (vx vy vz : Value) (w : World) (hx : IsD w vx m e) (hy : IsD w vy n f) (hz : IsD w vz n2 f2) (lm : zl m ≤ 1000) :
    Calls Tryz.prog 179 #[vx, vy, vz] w (RetD8 w (if m < 0 then n else n2) (if m < 0 then f else f2)) := by
  obtain ⟨A, c, rfl, _, hn1⟩ := hx.form
  obtain ⟨B, d, rfl, _, hn2⟩ := hy.form
  obtain ⟨C, h, rfl, _, hn3⟩ := hz.form
  have L0 := (((Lq.mk0 w).n hn3).n hn2).n hn1
  have hs := fun v W h => dsign_any m e v W h (by omega)
  have hc : cmpI m 0 < 0 ↔ m < 0 := by unfold cmpI; (repeat' split) <;> omega
  obtain ⟨x, hx9⟩ : ∃ x, cmpI m 0 = x := ⟨_, rfl⟩
  rw [hx9] at hs hc
  have HS := Lib.hid hs
  clear hs hx9 hx hy hz hn1 hn2 hn3 lm
  by_cases q : m < 0
  · rw [if_pos q, if_pos q]
    have b1 : decide (x < 0) = true := decide_eq_true (by omega)
    clear hc q
    go_enter Tryz.func179, Tryz.ntmps179
    go_wp2_with fail
    have L := ((((L0.varD (w.heap.size) (by simp) (ng m) A (zl m) c e).varD (w.heap.size + 1) (by simp) (ng n) B (zl n) d f).varD (w.heap.size + 2) (by simp) (ng n2) C (zl n2) h f2).varD (w.heap.size + 3) (by simp) false none 0 0 0)
    obtain ⟨gr, hgr⟩ : ∃ gr, w.heap.size + 1 + 1 + 1 = gr := ⟨_, rfl⟩
    have hgr2 : w.heap.size + 3 = gr := hgr
    obtain ⟨gz, hgz⟩ : ∃ gz, w.heap.size + 1 + 1 = gz := ⟨_, rfl⟩
    have hgz2 : w.heap.size + 2 = gz := hgz
    rw [hgr2, hgz2] at L
    rw [hgr, hgz]
    have hgr3 : w.heap.size + 2 < gr := by omega
    have hgz3 : w.heap.size + 1 < gz := by omega
    have hgr4 : gz < gr := by omega
    clear hgr hgr2 hgz hgz2
    have c00 := L.b0.c30
    have f00 := L.b0.fr 0
    have c01 := L.b0.c31
    have f01 := L.b0.fr 1
    have c02 := L.b0.c32
    have f02 := L.b0.fr 2
    have c10 := L.tl.b0.c30
    have c11 := L.tl.b0.c31
    have c12 := L.tl.b0.c32
    have c20 := L.tl.tl.b0.c30
    have c21 := L.tl.tl.b0.c31
    have c22 := L.tl.tl.b0.c32
    have c30 := L.tl.tl.tl.b0.c30
    have c31 := L.tl.tl.tl.b0.c31
    have c32 := L.tl.tl.tl.b0.c32
    (try go_wp2_with fail)
    refine (HS.out _ _ (isD_n (m := m) (e := e) (s := .slice A (zl m) c) (L.getN (by simp)))).mono ?_
    rintro e w1 ⟨rfl, be⟩
    clear c00 f00 c01 f01 c02 f02 c10 c11 c12 c20 c21 c22 c30 c31 c32
    replace L := L.step be
    clear be
    have c00 := L.b0.c30
    have f00 := L.b0.fr 0
    have c01 := L.b0.c31
    have f01 := L.b0.fr 1
    have c02 := L.b0.c32
    have f02 := L.b0.fr 2
    have c10 := L.tl.b0.c30
    have c11 := L.tl.b0.c31
    have c12 := L.tl.b0.c32
    have c20 := L.tl.tl.b0.c30
    have c21 := L.tl.tl.b0.c31
    have c22 := L.tl.tl.b0.c32
    have c30 := L.tl.tl.tl.b0.c30
    have c31 := L.tl.tl.tl.b0.c31
    have c32 := L.tl.tl.tl.b0.c32
    (try go_wp2_with fail)
    have LP := L.putD (by omega) (by first | (simp; done) | (simp; omega)) (ng n) B (zl n) d (f)
    have k0 := LP.b0.c30
    have k1 := LP.b0.c31
    have k2 := LP.b0.c32
    unfold put3 at k0 k1 k2
    exact bodyPost_ret (v := .agg #[.bool (ng n), .slice B (zl n) d, .int .i64 (f)]) (by simp [results, Tryz.results179, go_sem, k0, k1, k2]) rfl ⟨_, rfl, isD_n (LP.getN (by simp)), LP.below⟩
  · rw [if_neg q, if_neg q]
    have b1 : decide (x < 0) = false := decide_eq_false (by omega)
    clear hc q
    go_enter Tryz.func179, Tryz.ntmps179
    go_wp2_with fail
    have L := ((((L0.varD (w.heap.size) (by simp) (ng m) A (zl m) c e).varD (w.heap.size + 1) (by simp) (ng n) B (zl n) d f).varD (w.heap.size + 2) (by simp) (ng n2) C (zl n2) h f2).varD (w.heap.size + 3) (by simp) false none 0 0 0)
    obtain ⟨gr, hgr⟩ : ∃ gr, w.heap.size + 1 + 1 + 1 = gr := ⟨_, rfl⟩
    have hgr2 : w.heap.size + 3 = gr := hgr
    obtain ⟨gz, hgz⟩ : ∃ gz, w.heap.size + 1 + 1 = gz := ⟨_, rfl⟩
    have hgz2 : w.heap.size + 2 = gz := hgz
    rw [hgr2, hgz2] at L
    rw [hgr, hgz]
    have hgr3 : w.heap.size + 2 < gr := by omega
    have hgz3 : w.heap.size + 1 < gz := by omega
    have hgr4 : gz < gr := by omega
    clear hgr hgr2 hgz hgz2
    have c00 := L.b0.c30
    have f00 := L.b0.fr 0
    have c01 := L.b0.c31
    have f01 := L.b0.fr 1
    have c02 := L.b0.c32
    have f02 := L.b0.fr 2
    have c10 := L.tl.b0.c30
    have c11 := L.tl.b0.c31
    have c12 := L.tl.b0.c32
    have c20 := L.tl.tl.b0.c30
    have c21 := L.tl.tl.b0.c31
    have c22 := L.tl.tl.b0.c32
    have c30 := L.tl.tl.tl.b0.c30
    have c31 := L.tl.tl.tl.b0.c31
    have c32 := L.tl.tl.tl.b0.c32
    (try go_wp2_with fail)
    refine (HS.out _ _ (isD_n (m := m) (e := e) (s := .slice A (zl m) c) (L.getN (by simp)))).mono ?_
    rintro e w1 ⟨rfl, be⟩
    clear c00 f00 c01 f01 c02 f02 c10 c11 c12 c20 c21 c22 c30 c31 c32
    replace L := L.step be
    clear be
    have c00 := L.b0.c30
    have f00 := L.b0.fr 0
    have c01 := L.b0.c31
    have f01 := L.b0.fr 1
    have c02 := L.b0.c32
    have f02 := L.b0.fr 2
    have c10 := L.tl.b0.c30
    have c11 := L.tl.b0.c31
    have c12 := L.tl.b0.c32
    have c20 := L.tl.tl.b0.c30
    have c21 := L.tl.tl.b0.c31
    have c22 := L.tl.tl.b0.c32
    have c30 := L.tl.tl.tl.b0.c30
    have c31 := L.tl.tl.tl.b0.c31
    have c32 := L.tl.tl.tl.b0.c32
    (try go_wp2_with fail)
    have LP := L.putD (by omega) (by first | (simp; done) | (simp; omega)) (ng n2) C (zl n2) h (f2)
    have k0 := LP.b0.c30
    have k1 := LP.b0.c31
    have k2 := LP.b0.c32
    unfold put3 at k0 k1 k2
    exact bodyPost_ret (v := .agg #[.bool (ng n2), .slice C (zl n2) h, .int .i64 (f2)]) (by simp [results, Tryz.results179, go_sem, k0, k1, k2]) rfl ⟨_, rfl, isD_n (LP.getN (by simp)), LP.below⟩
set_option maxHeartbeats 8000000 in
theorem aquot_any (m e n f : Int) (vx vy : Value) (w : World) (hx : IsD w vx m e) (hy : IsD w vy n f) (lm : zl m ≤ 140) (ln : zl n ≤ 140) (he : -4500 ≤ e ∧ e ≤ 4500) (hf : -4500 ≤ f ∧ f ≤ 4500) (hn0 : n ≠ 0) :
    Calls Tryz.prog 178 #[vx, vy] w (RetP w (qtA m e n f) (qtD m e n f)) := by
  obtain ⟨A, c, rfl, hz1, hn1⟩ := hx.form
  obtain ⟨B, d, rfl, hz2, hn2⟩ := hy.form
  have L0 := ((((Lq.mk0 w).z hz2).z hz1).n hn2).n hn1
  have hs := fun v W h => dsign_any m e v W h (by omega)
  have hc : cmpI m 0 = 0 ↔ m = 0 := by unfold cmpI; (repeat' split) <;> omega
  obtain ⟨x, hx9⟩ : ∃ x, cmpI m 0 = x := ⟨_, rfl⟩
  rw [hx9] at hs hc
  have HS := Lib.hid hs
  clear hs hx9
  unfold qtA qtD
  by_cases q : m = 0
  · rw [if_pos q, if_pos q]
    have hx0 : x = 0 := hc.2 q
    have b1 : (x == 0) = true := by rw [hx0]; rfl
    have ho := fun W => pof_any 0 W (by omega) (by omega)
    have HO := Lib.hid (fun W => (show Calls Tryz.prog 194 #[.int .i64 0] W (RetP W 0 1) from ho W))
    clear ho hc q hx hy hz1 hz2 hn1 hn2 lm ln he hf hn0 hx0
    go_enter Tryz.func178, Tryz.ntmps178
    go_wp2_with fail
    have L := (((L0.varD (w.heap.size) (by simp) (ng m) A (zl m) c e).varD (w.heap.size + 1) (by simp) (ng n) B (zl n) d f).varQ (w.heap.size + 2) (by simp) false none none 0 0 0 0)
    obtain ⟨gr, hgr⟩ : ∃ gr, w.heap.size + 1 + 1 = gr := ⟨_, rfl⟩
    have hgr2 : w.heap.size + 2 = gr := hgr
    rw [hgr2] at L
    rw [hgr]
    have hgr3 : w.heap.size + 1 < gr := by omega
    clear hgr hgr2
    have c00 := L.b0.c30
    have f00 := L.b0.fr 0
    have c01 := L.b0.c31
    have f01 := L.b0.fr 1
    have c02 := L.b0.c32
    have f02 := L.b0.fr 2
    have c10 := L.tl.b0.c30
    have c11 := L.tl.b0.c31
    have c12 := L.tl.b0.c32
    have c20 := L.tl.tl.b0.c30
    have c21 := L.tl.tl.b0.c31
    have c22 := L.tl.tl.b0.c32
    (try go_wp2_with fail)
    refine (HS.out _ _ (isD_n (m := m) (e := e) (s := .slice A (zl m) c) (L.getN (by simp)))).mono ?_
    rintro e w1 ⟨rfl, be⟩
    clear c00 f00 c01 f01 c02 f02 c10 c11 c12 c20 c21 c22
    replace L := L.step be
    clear be
    have c00 := L.b0.c30
    have f00 := L.b0.fr 0
    have c01 := L.b0.c31
    have f01 := L.b0.fr 1
    have c02 := L.b0.c32
    have f02 := L.b0.fr 2
    have c10 := L.tl.b0.c30
    have c11 := L.tl.b0.c31
    have c12 := L.tl.b0.c32
    have c20 := L.tl.tl.b0.c30
    have c21 := L.tl.tl.b0.c31
    have c22 := L.tl.tl.b0.c32
    (try go_wp2_with fail)
    refine (HO.out _).mono ?_
    rintro e w2 ⟨vq, rfl, iq, be⟩
    clear c00 f00 c01 f01 c02 f02 c10 c11 c12 c20 c21 c22
    obtain ⟨A9, c9, B9, k9, rfl, _, _, _⟩ := iq.form
    replace L := (L.step be).q iq
    clear be iq
    have c00 := L.b0.c30
    have f00 := L.b0.fr 0
    have c01 := L.b0.c31
    have f01 := L.b0.fr 1
    have c02 := L.b0.c32
    have f02 := L.b0.fr 2
    have c10 := L.tl.b0.c30
    have c11 := L.tl.b0.c31
    have c12 := L.tl.b0.c32
    have c20 := L.tl.tl.b0.c30
    have c21 := L.tl.tl.b0.c31
    have c22 := L.tl.tl.b0.c32
    (try go_wp2_with fail)
    have LP := L.putQ (by omega) (by first | (simp; done) | (simp; omega)) (ng (0)) A9 B9 (zl (0)) c9 (len (1)) k9
    have k0 := LP.b0.c30
    have k1 := LP.b0.c31
    have k2 := LP.b0.c32
    unfold put3 at k0 k1 k2
    exact bodyPost_ret (v := .agg #[.bool (ng (0)), .slice A9 (zl (0)) c9, .slice B9 (len (1)) k9]) (by simp [results, Tryz.results178, go_sem, k0, k1, k2]) rfl ⟨_, rfl, LP.getQ (by simp), LP.below⟩
  · rw [if_neg q, if_neg q]
    have b1 : (x == 0) = false := by simpa using (fun h => q (hc.1 h))
    obtain ⟨z1, z2⟩ := qt_low (m := m) hn0
    have hm := fun v u W h1 h2 => pmake_any m n v u W h1 h2 (by omega) (by omega) hn0
    obtain ⟨p, hp⟩ : ∃ p, (Rat.divInt m n).num = p := ⟨_, rfl⟩
    obtain ⟨r, hr⟩ : ∃ r, (Rat.divInt m n).den = r := ⟨_, rfl⟩
    rw [hp] at hm z1 ⊢
    rw [hr] at hm z2 ⊢
    obtain ⟨s, hs⟩ : ∃ s, e - f = s := ⟨_, rfl⟩
    have hs2 : f - e = -s := by omega
    rw [hs, hs2]
    have w1 : IntKind.i64.wrap (e - f) = s := by rw [hs, IntKind.wrap_i64]; omega
    have w2 : IntKind.i64.wrap (-s) = -s := by rw [IntKind.wrap_i64]; omega
    have zr : zl ((r : Nat) : Int) ≤ 140 := by show len r ≤ 140; omega
    have n1 := fun v W h => anum_any p s v W h (by omega) (by omega)
    have n2 := fun v W h => anum_any ((r : Nat) : Int) (-s) v W h (by omega) (by omega)
    have hc2 : ((r : Nat) : Int) * 2 ^ (-s).toNat = ((r * 2 ^ (-s).toNat : Nat) : Int) := by rw [Int.natCast_mul, cast2]
    rw [hc2] at n2
    obtain ⟨a9, ha9⟩ : ∃ a9, p * 2 ^ s.toNat = a9 := ⟨_, rfl⟩
    obtain ⟨d9, hd9⟩ : ∃ d9, r * 2 ^ (-s).toNat = d9 := ⟨_, rfl⟩
    rw [ha9] at n1 ⊢
    rw [hd9] at n2 ⊢
    have HM := Lib.hid hm
    have N1 := Lib.hid n1
    have N2 := Lib.hid n2
    have hfd : ∀ (x : Bool) (E : Option Addr) (n1 n2 : Nat) (W : World), (Instr.field 24 (.agg #[.bool x, .slice E n1 n2]) 1).run Tryz.prog W = .ok (.slice E n1 n2) W := fun _ _ _ _ _ => by kernel_rfl
    clear hm n1 n2 hp hr hs hs2 z1 z2 zr hc2 ha9 hd9 hc q hx hy hz1 hz2 hn1 hn2 lm ln he hf hn0
    go_enter Tryz.func178, Tryz.ntmps178
    go_wp2_with fail
    have L := (((L0.varD (w.heap.size) (by simp) (ng m) A (zl m) c e).varD (w.heap.size + 1) (by simp) (ng n) B (zl n) d f).varQ (w.heap.size + 2) (by simp) false none none 0 0 0 0)
    obtain ⟨gr, hgr⟩ : ∃ gr, w.heap.size + 1 + 1 = gr := ⟨_, rfl⟩
    have hgr2 : w.heap.size + 2 = gr := hgr
    rw [hgr2] at L
    rw [hgr]
    have hgr3 : w.heap.size + 1 < gr := by omega
    clear hgr hgr2
    have c00 := L.b0.c30
    have f00 := L.b0.fr 0
    have c01 := L.b0.c31
    have f01 := L.b0.fr 1
    have c02 := L.b0.c32
    have f02 := L.b0.fr 2
    have c10 := L.tl.b0.c30
    have c11 := L.tl.b0.c31
    have c12 := L.tl.b0.c32
    have c20 := L.tl.tl.b0.c30
    have c21 := L.tl.tl.b0.c31
    have c22 := L.tl.tl.b0.c32
    (try go_wp2_with fail)
    refine (HS.out _ _ (isD_n (m := m) (e := e) (s := .slice A (zl m) c) (L.getN (by simp)))).mono ?_
    rintro e w1 ⟨rfl, be⟩
    clear c00 f00 c01 f01 c02 f02 c10 c11 c12 c20 c21 c22
    replace L := L.step be
    clear be
    have c00 := L.b0.c30
    have f00 := L.b0.fr 0
    have c01 := L.b0.c31
    have f01 := L.b0.fr 1
    have c02 := L.b0.c32
    have f02 := L.b0.fr 2
    have c10 := L.tl.b0.c30
    have c11 := L.tl.b0.c31
    have c12 := L.tl.b0.c32
    have c20 := L.tl.tl.b0.c30
    have c21 := L.tl.tl.b0.c31
    have c22 := L.tl.tl.b0.c32
    (try go_wp2_with fail)
    refine (HM.out _ _ _ (L.getZ (v := .agg #[.bool (ng m), .slice A (zl m) c]) (by simp)) (L.getZ (v := .agg #[.bool (ng n), .slice B (zl n) d]) (by simp))).mono ?_
    rintro e w2 ⟨vq, rfl, iq, be⟩
    clear c00 f00 c01 f01 c02 f02 c10 c11 c12 c20 c21 c22
    obtain ⟨A8, c8, B8, k8, rfl, iz8, _, in8⟩ := iq.form
    replace L := ((L.step be).z (isZ_nat in8)).z iz8
    clear be iq iz8 in8
    have hl8 := L.b0.lt
    have g8n : gr ≠ w2.heap.size := by omega
    replace L := L.varQ w2.heap.size rfl (ng p) A8 B8 (zl p) c8 (len r) k8
    have c00 := L.b0.c30
    have c01 := L.b0.c31
    have c02 := L.b0.c32
    have c20 := L.tl.tl.b0.c30
    have c21 := L.tl.tl.b0.c31
    have c22 := L.tl.tl.b0.c32
    have c30 := L.tl.tl.tl.b0.c30
    have c31 := L.tl.tl.tl.b0.c31
    have c32 := L.tl.tl.tl.b0.c32
    go_wp2_with fail
    replace L := L.swap.drew
    clear c00 c01 c02 c20 c21 c22 c30 c31 c32
    have c00 := L.b0.c30
    have f00 := L.b0.fr 0
    have c01 := L.b0.c31
    have f01 := L.b0.fr 1
    have c02 := L.b0.c32
    have f02 := L.b0.fr 2
    have c10 := L.tl.b0.c30
    have c11 := L.tl.b0.c31
    have c12 := L.tl.b0.c32
    go_region_held3 (fun w' => w'.cell? ⟨w2.heap.size, 0, none⟩ = some (.bool (ng p)) ∧ w'.cell? ⟨w2.heap.size, 1, none⟩ = some (.slice A8 (zl p) c8) ∧ w'.cell? ⟨w2.heap.size, 2, none⟩ = some (.slice B8 (len r) k8)) (first | (with_reducible exact ⟨L.tl.b0.c30, L.tl.b0.c31, L.tl.b0.c32⟩) | exact ⟨L.tl.b0.c30, L.tl.b0.c31, L.tl.b0.c32⟩ | (have LP := L.putQ (by omega) (by first | (simp; done) | (simp; omega)) (ng a9) A9 B9 (zl a9) c9 (zl (d9 : Int)) k9; exact ⟨LP.tl.b0.c30, LP.tl.b0.c31, LP.tl.b0.c32⟩)) (first | (go_at_call 198; (with_reducible refine (N1.out _ _ ?_ ).mono ?_); (· (refine L.getZ ?_; (repeat (first | (with_reducible exact List.mem_cons_self) | apply List.mem_cons_of_mem)))); rintro e wh ⟨vh, rfl, iz, be⟩; obtain ⟨A9, c9, rfl, in9⟩ := iz.form; replace L := (L.step be).n in9; clear be iz in9; (try (have x00 := L.b0.c30; have x01 := L.b0.c31; have x02 := L.b0.c32; have y00 := L.b0.fr 0; have y01 := L.b0.fr 1; have y02 := L.b0.fr 2))) | (go_at_call 198; (with_reducible refine (N2.out _ _ ?_ ).mono ?_); (· (refine L.getZ ?_; (repeat (first | (with_reducible exact List.mem_cons_self) | apply List.mem_cons_of_mem)))); rintro e wh ⟨vh, rfl, iz, be⟩; obtain ⟨B9, k9, rfl, in9⟩ := iz.form; replace L := (L.step be).n in9; clear be iz in9; (try (have x00 := L.b0.c30; have x01 := L.b0.c31; have x02 := L.b0.c32; have y00 := L.b0.fr 0; have y01 := L.b0.fr 1; have y02 := L.b0.fr 2))))
    clear c00 f00 c01 f01 c02 f02 c10 c11 c12
    go_wp2_with fail
    have LP := L.putQ (by omega) (by first | (simp; done) | (simp; omega)) (ng a9) A9 B9 (zl a9) c9 (zl (d9 : Int)) k9
    have k0 := LP.b0.c30
    have k1 := LP.b0.c31
    have k2 := LP.b0.c32
    unfold put3 at k0 k1 k2
    exact bodyPost_ret (v := .agg #[.bool (ng a9), .slice A9 (zl a9) c9, .slice B9 (zl (d9 : Int)) k9]) (by simp [results, Tryz.results178, go_sem, k0, k1, k2]) rfl ⟨_, rfl, ⟨_, _, rfl, LP.getN (by simp), (show IsN _ _ (d9 : Int).natAbs from LP.getN (by simp))⟩, LP.below⟩
theorem div_ends {a b c d : Rat} (hab : a ≤ b) (hc : 0 < c) (hcd : c ≤ d) : (if a < 0 then a / c else a / d) = min4 (a / c) (a / d) (b / c) (b / d) ∧ (if b < 0 then b / d else b / c) = max4 (a / c) (a / d) (b / c) (b / d) := by
  have hd : 0 < d := rle_lt hc hcd
  have i1 := inv_anti hc hcd
  have i2 := Rat.le_of_lt (inv_pos hc)
  have i3 := Rat.le_of_lt (inv_pos hd)
  simp only [Rat.div_def]
  have b1 := mul_nn hab i2
  have b2 := mul_nn hab i3
  have m4 := min4_le (a * c⁻¹) (a * d⁻¹) (b * c⁻¹) (b * d⁻¹)
  have M4 := le_max4 (a * c⁻¹) (a * d⁻¹) (b * c⁻¹) (b * d⁻¹)
  constructor
  · by_cases h : a < 0
    · rw [if_pos h]
      have a1 := mul_np i1 (Rat.le_of_lt h)
      rw [Rat.mul_comm, Rat.mul_comm d⁻¹] at a1
      exact Rat.le_antisymm (le_min4 Rat.le_refl a1 b1 (Rat.le_trans a1 b2)) m4.1
    · rw [if_neg h]
      have a1 := mul_nn i1 (Rat.not_lt.1 h)
      rw [Rat.mul_comm, Rat.mul_comm c⁻¹] at a1
      exact Rat.le_antisymm (le_min4 a1 Rat.le_refl (Rat.le_trans a1 b1) b2) m4.2.1
  · by_cases h : b < 0
    · rw [if_pos h]
      have a1 := mul_np i1 (Rat.le_of_lt h)
      rw [Rat.mul_comm, Rat.mul_comm d⁻¹] at a1
      exact Rat.le_antisymm M4.2.2.2 (max4_le (Rat.le_trans b1 a1) b2 a1 Rat.le_refl)
    · rw [if_neg h]
      have a1 := mul_nn i1 (Rat.not_lt.1 h)
      rw [Rat.mul_comm, Rat.mul_comm c⁻¹] at a1
      exact Rat.le_antisymm M4.2.2.1 (max4_le b1 (Rat.le_trans b2 a1) Rat.le_refl a1)
theorem dq_lt0 (m e : Int) : dq m e < 0 ↔ m < 0 := by
  have h := dcm_lt m e 0 0
  rw [dcm_zero, show dq 0 0 = 0 from rfl] at h
  rw [← h]
  unfold cmpI
  (repeat' split) <;> omega
theorem dq_gt0 (m e : Int) : 0 < dq m e ↔ 0 < m := by
  have h := dcm_lt 0 0 m e
  rw [dcm_swap m e 0 0, dcm_zero, show dq 0 0 = 0 from rfl] at h
  rw [← h]
  unfold cmpI
  (repeat' split) <;> omega
theorem quo_lo {m e n f m2 e2 n2 f2 : Int} (h1 : dcm m e n f ≤ 0) (h2 : dcm m2 e2 n2 f2 ≤ 0) (hp : 0 < m2) (hp2 : 0 < n2) : Rat.divInt (qtA m e (if m < 0 then m2 else n2) (if m < 0 then e2 else f2)) (qtD m e (if m < 0 then m2 else n2) (if m < 0 then e2 else f2) : Int) = min4 (dq m e / dq m2 e2) (dq m e / dq n2 f2) (dq n f / dq m2 e2) (dq n f / dq n2 f2) := by
  rw [← (div_ends ((dcm_le _ _ _ _).1 h1) ((dq_gt0 m2 e2).2 hp) ((dcm_le _ _ _ _).1 h2)).1]
  have hs := dq_lt0 m e
  by_cases h : m < 0
  · rw [if_pos h, if_pos h, if_pos (hs.2 h)]
    exact qt_val (by omega)
  · rw [if_neg h, if_neg h, if_neg (fun h9 => h (hs.1 h9))]
    exact qt_val (by omega)
theorem quo_hi {m e n f m2 e2 n2 f2 : Int} (h1 : dcm m e n f ≤ 0) (h2 : dcm m2 e2 n2 f2 ≤ 0) (hp : 0 < m2) (hp2 : 0 < n2) : Rat.divInt (qtA n f (if n < 0 then n2 else m2) (if n < 0 then f2 else e2)) (qtD n f (if n < 0 then n2 else m2) (if n < 0 then f2 else e2) : Int) = max4 (dq m e / dq m2 e2) (dq m e / dq n2 f2) (dq n f / dq m2 e2) (dq n f / dq n2 f2) := by
  rw [← (div_ends ((dcm_le _ _ _ _).1 h1) ((dq_gt0 m2 e2).2 hp) ((dcm_le _ _ _ _).1 h2)).2]
  have hs := dq_lt0 n f
  by_cases h : n < 0
  · rw [if_pos h, if_pos h, if_pos (hs.2 h)]
    exact qt_val (by omega)
  · rw [if_neg h, if_neg h, if_neg (fun h9 => h (hs.1 h9))]
    exact qt_val (by omega)
theorem cmp_signs {m n : Int} (h : cmpI m 0 = cmpI n 0) : (cmpI m 0 < 0 → m < 0 ∧ n < 0) ∧ (¬ cmpI m 0 < 0 → cmpI m 0 ≠ 0 → 0 < m ∧ 0 < n) := by
  unfold cmpI at *
  (repeat' split at *) <;> omega
theorem Lq.name {w0 w : World} {ns : List (Value × Nat)} {zs : List (Value × Int)} {qs : List (Value × Int × Nat)} {bs : List (Nat × TypeId × Array Value)} (h : Lq w0 w ns zs qs bs) : ∃ x, w = x ∧ Lq w0 x ns zs qs bs := ⟨w, rfl, h⟩


set_option maxHeartbeats 4000000 in
theorem of15_any (a b : Int) (w : World) (h1 : -4000 ≤ a ∧ a ≤ 4000) (h2 : -4000 ≤ b ∧ b ≤ 4000) :
    Calls Tryz.prog 23 #[.int .i64 a, .int .i64 b] w (RetI6 w (mkM a 0) (mkE a 0) (mkM b 0) (mkE b 0)) := by
  have HA := Lib.hid (fun W => rof8_any a W (by omega) (by omega))
  have HB := Lib.hid (fun W => rof8_any b W (by omega) (by omega))
  generalize mkM a 0 = m at *
  generalize mkE a 0 = e at *
  generalize mkM b 0 = n at *
  generalize mkE b 0 = f at *
  clear h1 h2
  go_enter Tryz.func23, Tryz.ntmps23
  go_wp2_with fail
  have L := ((Lq.mk0 w).varI (w.heap.size) (by simp) false none 0 0 0 false none 0 0 0)
  have c00 := L.b0.c60
  have f00 := L.b0.fr 0
  have c01 := L.b0.c61
  have f01 := L.b0.fr 1
  have c02 := L.b0.c62
  have f02 := L.b0.fr 2
  have c03 := L.b0.c63
  have f03 := L.b0.fr 3
  have c04 := L.b0.c64
  have f04 := L.b0.fr 4
  have c05 := L.b0.c65
  have f05 := L.b0.fr 5
  (try go_wp2_with fail)
  refine (HA.out _).mono ?_
  rintro e w1 ⟨v1, rfl, id, be⟩
  clear c00 f00 c01 f01 c02 f02 c03 f03 c04 f04 c05 f05
  obtain ⟨A, c, rfl, _, in9⟩ := id.form
  replace L := (L.step be).n in9
  clear be id in9
  have c00 := L.b0.c60
  have f00 := L.b0.fr 0
  have c01 := L.b0.c61
  have f01 := L.b0.fr 1
  have c02 := L.b0.c62
  have f02 := L.b0.fr 2
  have c03 := L.b0.c63
  have f03 := L.b0.fr 3
  have c04 := L.b0.c64
  have f04 := L.b0.fr 4
  have c05 := L.b0.c65
  have f05 := L.b0.fr 5
  (try go_wp2_with fail)
  refine (HB.out _).mono ?_
  rintro e w2 ⟨v2, rfl, id, be⟩
  clear c00 f00 c01 f01 c02 f02 c03 f03 c04 f04 c05 f05
  obtain ⟨B, d, rfl, _, in9⟩ := id.form
  replace L := (L.step be).n in9
  clear be id in9
  have c00 := L.b0.c60
  have f00 := L.b0.fr 0
  have c01 := L.b0.c61
  have f01 := L.b0.fr 1
  have c02 := L.b0.c62
  have f02 := L.b0.fr 2
  have c03 := L.b0.c63
  have f03 := L.b0.fr 3
  have c04 := L.b0.c64
  have f04 := L.b0.fr 4
  have c05 := L.b0.c65
  have f05 := L.b0.fr 5
  (try go_wp2_with fail)
  have LP := L.putI (by omega) (by first | (simp; done) | (simp; omega)) (ng m) A (zl m) c e (ng n) B (zl n) d f
  have k0 := LP.b0.c60
  have k1 := LP.b0.c61
  have k2 := LP.b0.c62
  have k3 := LP.b0.c63
  have k4 := LP.b0.c64
  have k5 := LP.b0.c65
  unfold put6 at k0 k1 k2 k3 k4 k5
  exact bodyPost_ret (v := .agg #[.bool (ng m), .slice A (zl m) c, .int .i64 e, .bool (ng n), .slice B (zl n) d, .int .i64 f]) (by simp [results, Tryz.results23, go_sem, k0, k1, k2, k3, k4, k5]) rfl ⟨_, rfl, isI_n (LP.getN (by simp)) (LP.getN (by simp)), LP.below⟩
theorem Lq.sub1 {w0 w : World} {ns : List (Value × Nat)} {zs : List (Value × Int)} {qs : List (Value × Int × Nat)} {bs : List (Nat × TypeId × Array Value)} (h : Lq w0 w ns zs qs bs) {ns' : List (Value × Nat)} {bs' : List (Nat × TypeId × Array Value)} (h1 : ∀ p ∈ ns', p ∈ ns) (h2 : ∀ b ∈ bs', b ∈ bs) : Lq w0 w ns' [] [] bs' := h.subx h1 h2
theorem dv_opp {m e : Int} (h : Dv m e) : Dv (-m) e := by
  rcases h with ⟨h1, h2⟩ | ⟨h1, h2⟩
  · exact Or.inl ⟨by omega, h2⟩
  · refine Or.inr ⟨by omega, ?_⟩
    unfold fits8 at *
    rwa [Int.natAbs_neg]
/-- An end of an argument. -/
structure EndL (m e : Int) : Prop where
  v : Dv m e
  nn : ng m = false
  z : zl m ≤ 3
  e1 : -60 ≤ e
  e2 : e ≤ 156
theorem EndL.ge {m e : Int} (h : EndL m e) : 0 ≤ m := by
  have := h.nn
  unfold ng at this
  have := of_decide_eq_false this
  omega
/-- An argument of a law, before its sign is looked at. -/
structure ArgP (m e n f : Int) : Prop where
  lo : EndL m e
  hi : EndL n f
  le : dq m e ≤ dq n f
/-- A positive argument. -/
structure ArgL (m e n f : Int) : Prop where
  vm : Dv m e
  vn : Dv n f
  pm : 0 < m
  le : dq m e ≤ dq n f
  zm : zl m ≤ 3
  zn : zl n ≤ 3
  em : -60 ≤ e ∧ e ≤ 156
  en : -60 ≤ f ∧ f ≤ 156
theorem ArgP.pos {m e n f : Int} (h : ArgP m e n f) (hm : 0 < m) : ArgL m e n f := ⟨h.lo.v, h.hi.v, hm, h.le, h.lo.z, h.hi.z, ⟨h.lo.e1, h.lo.e2⟩, ⟨h.hi.e1, h.hi.e2⟩⟩
/-- What arg returns. -/
def RetArgL (w : World) (en : Ending) (w' : World) : Prop := ∃ v ok m e n f, en = .returned (.tuple #[v, .bool ok]) ∧ IsI w' v m e n f ∧ Below w.heap.size w w' ∧ (ok = true → ArgL m e n f)

set_option maxHeartbeats 16000000 in
theorem s15arg_any (b b' : Bool) (l l' : List Nat) (A A' : Option Addr) (p c p' c' : Nat) (e0 e1 : Int) (w : World) (h : Sl w A p c l) (h' : Sl w A' p' c' l') (h1 : -9223372036854775808 ≤ e0) (h2 : e0 ≤ 9223372036854775807) (h3 : -9223372036854775808 ≤ e1) (h4 : e1 ≤ 9223372036854775807) :
    Calls Tryz.prog 10 #[.agg #[.bool b, .slice A p c, .int .i64 e0, .bool b', .slice A' p' c', .int .i64 e1]] w (RetArgL w) := by
  have H0 := Lib.hid (fun W (hW : Below w.heap.size w W) => millI_any b b' l l' 2 60 A A' p c p' c' e0 e1 W (h.mono hW) (h'.mono hW) (by omega) (by omega) h1 h2 h3 h4)
  clear h h' h1 h2 h3 h4
  go_enter Tryz.func10, Tryz.ntmps10
  go_wp2_with fail
  have L := (((Lq.mk0 w).varI (w.heap.size) (by simp) b A p c e0 b' A' p' c' e1).varI (w.heap.size + 1) (by simp) false none 0 0 0 false none 0 0 0)
  have c10 := L.tl.b0.c60
  have c11 := L.tl.b0.c61
  have c12 := L.tl.b0.c62
  have c13 := L.tl.b0.c63
  have c14 := L.tl.b0.c64
  have c15 := L.tl.b0.c65
  (try go_wp2_with fail)
  refine (H0.out _ L.below).mono ?_
  rintro e w1 ⟨vv, ok, m, e, n, f, rfl, ii, zz, be1, bf1, hdv, hcm, be⟩
  clear c10 c11 c12 c13 c14 c15
  obtain ⟨A6, c6, B6, d6, rfl, ia, ib⟩ := ii.form
  replace L := ((L.step be).n ib).n ia
  clear be ii ia ib H0
  have hl0 := L.b0.lt
  have hl1 := L.tl.b0.lt
  replace L := L.varI w1.heap.size rfl (ng m) A6 (zl m) c6 e (ng n) B6 (zl n) d6 f
  have HA := Lib.hid (fun h : ok = true => And.intro (hdv h) (And.intro zz (And.intro be1 bf1)))
  clear hdv hcm zz be1 bf1
  cases ok
  · clear hl0 hl1
    have c00 := L.b0.c60
    have c01 := L.b0.c61
    have c02 := L.b0.c62
    have c03 := L.b0.c63
    have c04 := L.b0.c64
    have c05 := L.b0.c65
    have LS := L.subx (ns' := [(.slice A6 (zl m) c6, m.natAbs), (.slice B6 (zl n) d6, n.natAbs)]) (bs' := [(w.heap.size + 1, 28, #[.bool false, .slice none 0 0, .int .i64 0, .bool false, .slice none 0 0, .int .i64 0])]) (by simp) (by simp)
    have s0 := LS.b0.c60
    have r0 := LS.b0.fr 0
    have s1 := LS.b0.c61
    have r1 := LS.b0.fr 1
    have s2 := LS.b0.c62
    have r2 := LS.b0.fr 2
    have s3 := LS.b0.c63
    have r3 := LS.b0.fr 3
    have s4 := LS.b0.c64
    have r4 := LS.b0.fr 4
    have s5 := LS.b0.c65
    have r5 := LS.b0.fr 5
    go_wp2_with fail
    clear L
    have L := LS
    have LP := L.putI (by omega) (by simp) (ng m) A6 (zl m) c6 e (ng n) B6 (zl n) d6 f
    have k0 := LP.b0.c60
    have k1 := LP.b0.c61
    have k2 := LP.b0.c62
    have k3 := LP.b0.c63
    have k4 := LP.b0.c64
    have k5 := LP.b0.c65
    unfold put6 at k0 k1 k2 k3 k4 k5
    exact bodyPost_ret (v := .tuple #[.agg #[.bool (ng m), .slice A6 (zl m) c6, .int .i64 e, .bool (ng n), .slice B6 (zl n) d6, .int .i64 f], .bool false]) (by simp [results, Tryz.results10, go_sem, k0, k1, k2, k3, k4, k5]) rfl ⟨_, _, _, _, _, _, rfl, isI_n (LP.getN (by simp)) (LP.getN (by simp)), LP.below, fun h => by cases h⟩
  · obtain ⟨⟨dv1, dv2⟩, ⟨z1, z2⟩, be1, bf1⟩ := HA.out rfl
    clear HA
    have c00 := L.b0.c60
    have c01 := L.b0.c61
    have c02 := L.b0.c62
    have c03 := L.b0.c63
    have c04 := L.b0.c64
    have c05 := L.b0.c65
    go_upto_region 4 with fail
    clear c00 c01 c02 c03 c04 c05
    obtain ⟨g6, hg6⟩ : ∃ g9, w1.heap.size = g9 := ⟨_, rfl⟩
    rw [hg6] at L hl0 hl1 ⊢
    clear hg6
    have L8 := L.subx (ns' := [(.slice A6 (zl m) c6, m.natAbs), (.slice B6 (zl n) d6, n.natAbs)]) (bs' := [(g6, 28, #[.bool (ng m), .slice A6 (zl m) c6, .int .i64 e, .bool (ng n), .slice B6 (zl n) d6, .int .i64 f]), (w.heap.size + 1, 28, #[.bool false, .slice none 0 0, .int .i64 0, .bool false, .slice none 0 0, .int .i64 0])]) (by simp) (by simp)
    clear L
    have L := L8
    clear L8
    have hgr : w.heap.size + 1 < g6 := by omega
    have hmn : ∀ (x y : Int), Dv x y → ng x = true → zl x ≤ 3 → -60 ≤ y → y ≤ 156 → EndL (-x) y := fun x y q1 q2 q3 q4 q5 => ⟨dv_opp q1, by
      unfold ng at *
      have := of_decide_eq_true q2
      exact decide_eq_false (by omega), by rw [zl_neg]; exact q3, q4, q5⟩
    have HM := Lib.hid hmn
    clear hmn
    obtain ⟨V0, hV0, L9⟩ := L.name
    rw [hV0]
    clear hV0 L
    have L := L9
    clear L9
    obtain ⟨a0, ha0⟩ : ∃ a, ng m = a := ⟨_, rfl⟩
    have HN := Lib.hid ha0
    clear ha0
    have c00 := L.b0.c60
    have c01 := L.b0.c61
    have c02 := L.b0.c62
    have c03 := L.b0.c63
    have c04 := L.b0.c64
    have c05 := L.b0.c65
    have hnx := HN.out
    rw [hnx] at c00
    clear hnx
    go_upto_if 17 with fail
    clear c00 c01 c02 c03 c04 c05
    go_cut [] from 18 to 22 (fun wx => ∃ (x9 : Int) (A9 : Option Addr) (c9 : Nat), Lq w wx [(.slice A9 (zl x9) c9, x9.natAbs), (.slice B6 (zl n) d6, n.natAbs)] [] [] [(g6, 28, #[.bool (ng x9), .slice A9 (zl x9) c9, .int .i64 e, .bool (ng n), .slice B6 (zl n) d6, .int .i64 f]), (w.heap.size + 1, 28, #[.bool false, .slice none 0 0, .int .i64 0, .bool false, .slice none 0 0, .int .i64 0])] ∧ Hid (EndL x9 e))
    case first =>
      cases a0
      · have HE := Lib.hid (EndL.mk dv1 HN.out z1 (by omega) (by omega))
        go_wp2_with fail
        go_meet
        exact ⟨m, A6, c6, L, HE⟩
      · have HE := Lib.hid (HM.out _ _ dv1 HN.out z1 (by omega) (by omega))
        have G1 := Lib.hid (fun x W h => rneg8_any m e x W h (by omega))
        have c00 := L.b0.c60
        have f00 := L.b0.fr 0
        have c01 := L.b0.c61
        have f01 := L.b0.fr 1
        have c02 := L.b0.c62
        have f02 := L.b0.fr 2
        have c03 := L.b0.c63
        have f03 := L.b0.fr 3
        have c04 := L.b0.c64
        have f04 := L.b0.fr 4
        have c05 := L.b0.c65
        have f05 := L.b0.fr 5
        go_wp2_with fail
        refine (G1.out _ _ (isD_n (m := m) (e := e) (s := .slice A6 (zl m) c6) (L.getN (by simp)))).mono ?_
        rintro e9 w2 ⟨vv, rfl, id, be⟩
        clear c00 f00 c01 f01 c02 f02 c03 f03 c04 f04 c05 f05
        obtain ⟨A9, c9, rfl, _, in9⟩ := id.form
        replace L := (L.step be).n in9
        clear be id in9
        obtain ⟨x9, hx9⟩ : ∃ z, -m = z := ⟨_, rfl⟩
        rw [hx9] at L HE ⊢
        clear hx9
        have c00 := L.b0.c60
        have f00 := L.b0.fr 0
        have c01 := L.b0.c61
        have f01 := L.b0.fr 1
        have c02 := L.b0.c62
        have f02 := L.b0.fr 2
        have c03 := L.b0.c63
        have f03 := L.b0.fr 3
        have c04 := L.b0.c64
        have f04 := L.b0.fr 4
        have c05 := L.b0.c65
        have f05 := L.b0.fr 5
        have P := L.putLo (by omega) (by simp; omega) (ng x9) A9 (zl x9) c9 e
        go_wp2_with fail
        go_meet
        exact ⟨x9, A9, c9, P.subx (by simp) (by simp), HE⟩
    case rest =>
      clear L HN
      obtain ⟨m, A6, c6, L, HE0⟩ := hcut
      generalize wc = wd0 at *
      obtain ⟨a1, ha1⟩ : ∃ a, ng n = a := ⟨_, rfl⟩
      have HN := Lib.hid ha1
      clear ha1
      have c00 := L.b0.c60
      have c01 := L.b0.c61
      have c02 := L.b0.c62
      have c03 := L.b0.c63
      have c04 := L.b0.c64
      have c05 := L.b0.c65
      have hnx := HN.out
      rw [hnx] at c03
      clear hnx
      go_upto_if 25 with fail
      clear c00 c01 c02 c03 c04 c05
      go_cut [] from 26 to 30 (fun wx => ∃ (x9 : Int) (A9 : Option Addr) (c9 : Nat), Lq w wx [(.slice A6 (zl m) c6, m.natAbs), (.slice A9 (zl x9) c9, x9.natAbs)] [] [] [(g6, 28, #[.bool (ng m), .slice A6 (zl m) c6, .int .i64 e, .bool (ng x9), .slice A9 (zl x9) c9, .int .i64 f]), (w.heap.size + 1, 28, #[.bool false, .slice none 0 0, .int .i64 0, .bool false, .slice none 0 0, .int .i64 0])] ∧ Hid (EndL x9 f))
      case first =>
        cases a1
        · have HE := Lib.hid (EndL.mk dv2 HN.out z2 (by omega) (by omega))
          go_wp2_with fail
          go_meet
          exact ⟨n, B6, d6, L, HE⟩
        · have HE := Lib.hid (HM.out _ _ dv2 HN.out z2 (by omega) (by omega))
          have G1 := Lib.hid (fun x W h => rneg8_any n f x W h (by omega))
          have c00 := L.b0.c60
          have f00 := L.b0.fr 0
          have c01 := L.b0.c61
          have f01 := L.b0.fr 1
          have c02 := L.b0.c62
          have f02 := L.b0.fr 2
          have c03 := L.b0.c63
          have f03 := L.b0.fr 3
          have c04 := L.b0.c64
          have f04 := L.b0.fr 4
          have c05 := L.b0.c65
          have f05 := L.b0.fr 5
          go_wp2_with fail
          refine (G1.out _ _ (isD_n (m := n) (e := f) (s := .slice B6 (zl n) d6) (L.getN (by simp)))).mono ?_
          rintro e9 w7 ⟨vv, rfl, id, be⟩
          clear c00 f00 c01 f01 c02 f02 c03 f03 c04 f04 c05 f05
          obtain ⟨A9, c9, rfl, _, in9⟩ := id.form
          replace L := (L.step be).n in9
          clear be id in9
          obtain ⟨x9, hx9⟩ : ∃ z, -n = z := ⟨_, rfl⟩
          rw [hx9] at L HE ⊢
          clear hx9
          have c00 := L.b0.c60
          have f00 := L.b0.fr 0
          have c01 := L.b0.c61
          have f01 := L.b0.fr 1
          have c02 := L.b0.c62
          have f02 := L.b0.fr 2
          have c03 := L.b0.c63
          have f03 := L.b0.fr 3
          have c04 := L.b0.c64
          have f04 := L.b0.fr 4
          have c05 := L.b0.c65
          have f05 := L.b0.fr 5
          have P := L.putHi (by omega) (by simp; omega) (ng x9) A9 (zl x9) c9 f
          go_wp2_with fail
          go_meet
          exact ⟨x9, A9, c9, P.subx (by simp) (by simp), HE⟩
      case rest =>
        clear L HN
        obtain ⟨n, B6, d6, L, HE1⟩ := hcut
        generalize wc = wd1 at *
        have hE0 := HE0.out
        have hE1 := HE1.out
        have z1 := hE0.z
        have z2 := hE1.z
        have a1 := hE0.e1
        have a2 := hE0.e2
        have a3 := hE1.e1
        have a4 := hE1.e2
        have g1 := fun x y W h j => rcmp8_any m e n f x y W h j (by omega) (by omega) (by omega) (by omega)
        rw [show cmpI (m * 2 ^ (e - min e f).toNat) (n * 2 ^ (f - min e f).toNat) = dcm m e n f from rfl] at g1
        have hle := dcm_le m e n f
        obtain ⟨cm, hcm⟩ : ∃ z, dcm m e n f = z := ⟨_, rfl⟩
        rw [hcm] at g1 hle
        have G1 := Lib.hid g1
        have hP1 : cm ≤ 0 → ArgP m e n f := fun h => ⟨hE0, hE1, hle.1 h⟩
        have hP2 : 0 < cm → ArgP n f m e := fun h => ⟨hE1, hE0, Rat.le_of_lt (Rat.not_le.1 fun h9 => by have := hle.2 h9; omega)⟩
        have HP1 := Lib.hid hP1
        have HP2 := Lib.hid hP2
        clear g1 hle hcm hP1 hP2 hE0 hE1 z1 z2 a1 a2 a3 a4 HE0 HE1 dv1 dv2 be1 bf1
        have c00 := L.b0.c60
        have c01 := L.b0.c61
        have c02 := L.b0.c62
        have c03 := L.b0.c63
        have c04 := L.b0.c64
        have c05 := L.b0.c65
        (try go_wp2_with fail)
        refine (G1.out _ _ _ (isD_n (m := m) (e := e) (s := .slice A6 (zl m) c6) (L.getN (by simp))) (isD_n (m := n) (e := f) (s := .slice B6 (zl n) d6) (L.getN (by simp)))).mono ?_
        rintro e w12 ⟨rfl, be⟩
        clear c00 c01 c02 c03 c04 c05
        replace L := L.step be
        clear be
        go_upto_if 35 with fail
        go_cut [] from 36 to 42 (fun wx => ∃ (m e n f : Int) (A B : Option Addr) (c d : Nat), Lq w wx [(.slice A (zl m) c, m.natAbs), (.slice B (zl n) d, n.natAbs)] [] [] [(g6, 28, #[.bool (ng m), .slice A (zl m) c, .int .i64 e, .bool (ng n), .slice B (zl n) d, .int .i64 f]), (w.heap.size + 1, 28, #[.bool false, .slice none 0 0, .int .i64 0, .bool false, .slice none 0 0, .int .i64 0])] ∧ Hid (ArgP m e n f))
        case first =>
          rcases Int.lt_or_le 0 cm with hcm | hcm
          · have d1 : decide (0 < cm) = true := decide_eq_true hcm
            have HQ := Lib.hid (HP2.out hcm)
            have c00 := L.b0.c60
            have f00 := L.b0.fr 0
            have c01 := L.b0.c61
            have f01 := L.b0.fr 1
            have c02 := L.b0.c62
            have f02 := L.b0.fr 2
            have c03 := L.b0.c63
            have f03 := L.b0.fr 3
            have c04 := L.b0.c64
            have f04 := L.b0.fr 4
            have c05 := L.b0.c65
            have f05 := L.b0.fr 5
            have P1 := L.putLo (by omega) (by simp; omega) (ng n) B6 (zl n) d6 f
            have p0 := P1.b0.c60
            have p1 := P1.b0.c61
            have p2 := P1.b0.c62
            have p3 := P1.b0.c63
            have p4 := P1.b0.c64
            have p5 := P1.b0.c65
            have q0 := P1.b0.fr 0
            have q1 := P1.b0.fr 1
            have q2 := P1.b0.fr 2
            have q3 := P1.b0.fr 3
            have q4 := P1.b0.fr 4
            have q5 := P1.b0.fr 5
            have P := P1.putHi (by omega) (by simp; omega) (ng m) A6 (zl m) c6 e
            go_wp2_with fail
            go_meet
            exact ⟨n, f, m, e, B6, A6, d6, c6, P.subx (by simp) (by simp), HQ⟩
          · have d1 : decide (0 < cm) = false := decide_eq_false (by omega)
            have HQ := Lib.hid (HP1.out hcm)
            go_wp2_with fail
            go_meet
            exact ⟨m, e, n, f, A6, B6, c6, d6, L.subx (by simp) (by simp), HQ⟩
        case rest =>
          clear L HP1 HP2 G1
          obtain ⟨m, e, n, f, A, B, c, d, L, HQ⟩ := hcut
          generalize wc = wd9 at *
          have hz := HQ.out.lo.z
          have g1 := fun x W h => rsign8_any m e x W h (by omega)
          obtain ⟨s, hs⟩ : ∃ s, cmpI m 0 = s := ⟨_, rfl⟩
          have hsm : 0 < s → 0 < m := by
            rw [← hs]
            intro h
            unfold cmpI at h
            (repeat' split at h) <;> omega
          rw [hs] at g1
          have G1 := Lib.hid g1
          have HSM := Lib.hid hsm
          clear g1 hs hsm hz
          have c00 := L.b0.c60
          have c01 := L.b0.c61
          have c02 := L.b0.c62
          have c03 := L.b0.c63
          have c04 := L.b0.c64
          have c05 := L.b0.c65
          go_upto_region 10 with fail
          clear c00 c01 c02 c03 c04 c05
          replace L := L.swap.drew
          go_cut [3] from 42 to 47 (fun s3 wx => s3 = .bool (decide (0 < s)) ∧ Lq w wx [(.slice A (zl m) c, m.natAbs), (.slice B (zl n) d, n.natAbs)] [] [] [(w.heap.size + 1, 28, #[.bool (ng m), .slice A (zl m) c, .int .i64 e, .bool (ng n), .slice B (zl n) d, .int .i64 f])])
          case first =>
            have c00 := L.b0.c60
            have f00 := L.b0.fr 0
            have c01 := L.b0.c61
            have f01 := L.b0.fr 1
            have c02 := L.b0.c62
            have f02 := L.b0.fr 2
            have c03 := L.b0.c63
            have f03 := L.b0.fr 3
            have c04 := L.b0.c64
            have f04 := L.b0.fr 4
            have c05 := L.b0.c65
            have f05 := L.b0.fr 5
            go_region_held3 (fun w' => w'.cell? ⟨g6, 0, none⟩ = some (.bool (ng m)) ∧ w'.cell? ⟨g6, 1, none⟩ = some (.slice A (zl m) c) ∧ w'.cell? ⟨g6, 2, none⟩ = some (.int .i64 e) ∧ w'.cell? ⟨g6, 3, none⟩ = some (.bool (ng n)) ∧ w'.cell? ⟨g6, 4, none⟩ = some (.slice B (zl n) d) ∧ w'.cell? ⟨g6, 5, none⟩ = some (.int .i64 f)) (first | (with_reducible exact ⟨L.tl.b0.c60, L.tl.b0.c61, L.tl.b0.c62, L.tl.b0.c63, L.tl.b0.c64, L.tl.b0.c65⟩) | (have LP := L.putI (by omega) (by simp; omega) (ng m) A (zl m) c e (ng n) B (zl n) d f; unfold put6 at LP; with_reducible exact ⟨LP.tl.b0.c60, LP.tl.b0.c61, LP.tl.b0.c62, LP.tl.b0.c63, LP.tl.b0.c64, LP.tl.b0.c65⟩) | exact ⟨L.tl.b0.c60, L.tl.b0.c61, L.tl.b0.c62, L.tl.b0.c63, L.tl.b0.c64, L.tl.b0.c65⟩) (first | (go_at_call 18; (with_reducible refine (G1.out _ _ ?_).mono ?_); (· (first | (refine isD_n (L.getN ?_); ((repeat (first | (with_reducible exact List.mem_cons_self) | apply List.mem_cons_of_mem)))) | (have LP := L.putI (by omega) (by simp; omega) (ng m) A (zl m) c e (ng n) B (zl n) d f; unfold put6 at LP; refine isD_n (LP.getN ?_); ((repeat (first | (with_reducible exact List.mem_cons_self) | apply List.mem_cons_of_mem)))))); rintro e9 wh ⟨rfl, be⟩; (first | (replace L := L.step be) | (have LP := L.putI (by omega) (by simp; omega) (ng m) A (zl m) c e (ng n) B (zl n) d f; unfold put6 at LP; replace L := LP.step be)); have x0 := L.b0.fr 0; have x1 := L.b0.fr 1; have x2 := L.b0.fr 2; have x3 := L.b0.fr 3; have x4 := L.b0.fr 4; have x5 := L.b0.fr 5; have y0 := L.b0.c60; have y1 := L.b0.c61; have y2 := L.b0.c62; have y3 := L.b0.c63; have y4 := L.b0.c64; have y5 := L.b0.c65))
            all_goals
              go_wp2_with fail
              go_meet
              first
              | with_reducible exact ⟨rfl, L.sub1 (by simp) (by simp)⟩
              | (have LP := L.putI (by omega) (by simp; omega) (ng m) A (zl m) c e (ng n) B (zl n) d f
                 unfold put6 at LP
                 with_reducible exact ⟨rfl, LP.sub1 (by simp) (by simp)⟩)
          case rest =>
            clear L
            obtain ⟨rfl, L⟩ := hcut
            generalize wc = wd8 at *
            have c00 := L.b0.c60
            have f00 := L.b0.fr 0
            have c01 := L.b0.c61
            have f01 := L.b0.fr 1
            have c02 := L.b0.c62
            have f02 := L.b0.fr 2
            have c03 := L.b0.c63
            have f03 := L.b0.fr 3
            have c04 := L.b0.c64
            have f04 := L.b0.fr 4
            have c05 := L.b0.c65
            have f05 := L.b0.fr 5
            go_wp2_with fail
            exact bodyPost_ret (v := .tuple #[.agg #[.bool (ng m), .slice A (zl m) c, .int .i64 e, .bool (ng n), .slice B (zl n) d, .int .i64 f], .bool (decide (0 < s))]) (by simp [results, Tryz.results10, go_sem, c00, c01, c02, c03, c04, c05]) rfl ⟨_, _, m, e, n, f, rfl, isI_n (L.getN (by simp)) (L.getN (by simp)), L.below, fun h => HQ.out.pos (HSM.out (of_decide_eq_true h))⟩

set_option maxHeartbeats 4000000 in
theorem dshift_any (m e k : Int) (vx : Value) (w : World) (hx : IsD w vx m e) (lm : zl m ≤ 20000) (he : -1000000 ≤ e ∧ e ≤ 1000000) (hk : -65536 ≤ k ∧ k ≤ 65536) (hT : Tab w) :
    Calls Tryz.prog 77 #[vx, .int .i64 k] w (RetDE w (mkM m (e + k)) (mkE m (e + k)) (mkR m (e + k))) := by
  obtain ⟨A, c, rfl, hz, hn⟩ := hx.form
  have L0 := (Lq.mk0 w).z hz
  obtain ⟨s, hs⟩ : ∃ s, e + k = s := ⟨_, rfl⟩
  have hw : IntKind.i64.wrap (e + k) = s := by rw [← hs, IntKind.wrap_i64]; omega
  have hw0 := fun W => within_any k 65536 W (by omega) (by omega)
  have hin : (decide (-65536 ≤ k) && decide (k ≤ 65536)) = true := by rw [decide_eq_true hk.1, decide_eq_true hk.2]; rfl
  rw [hin] at hw0
  have HW := Lib.hid hw0
  have HM0 := fun v W h (hW : Below w.heap.size w W) => dmake_any m s v W h (by omega) (hT.mono hW)
  rw [hs]
  generalize mkM m s = M at *
  generalize mkE m s = E at *
  generalize mkR m s = R at *
  have HM := Lib.hid HM0
  clear HM0 hw0 hin hs hx hz hn lm he hk hT
  go_enter Tryz.func77, Tryz.ntmps77
  go_wp2_with fail
  have L := ((L0.varD (w.heap.size) (by simp) (ng m) A (zl m) c e).varD (w.heap.size + 1) (by simp) false none 0 0 0)
  have c00 := L.b0.c30
  have f00 := L.b0.fr 0
  have c01 := L.b0.c31
  have f01 := L.b0.fr 1
  have c02 := L.b0.c32
  have f02 := L.b0.fr 2
  have c10 := L.tl.b0.c30
  have f10 := L.tl.b0.fr 0
  have c11 := L.tl.b0.c31
  have f11 := L.tl.b0.fr 1
  have c12 := L.tl.b0.c32
  have f12 := L.tl.b0.fr 2
  (try go_wp2_with fail)
  refine (HW.out _).mono ?_
  rintro e9 w' ⟨rfl, rfl⟩
  (try go_wp2_with fail)
  refine (HM.out _ _ (L.getZ (v := .agg #[.bool (ng m), .slice A (zl m) c]) (by simp)) L.below).mono ?_
  rintro e w1 ⟨v8, rfl, id, be⟩
  clear c00 f00 c01 f01 c02 f02 c10 f10 c11 f11 c12 f12
  obtain ⟨A9, c9, rfl, _, in9⟩ := id.form
  replace L := (L.step be).n in9
  clear be in9 id
  have c00 := L.b0.c30
  have f00 := L.b0.fr 0
  have c01 := L.b0.c31
  have f01 := L.b0.fr 1
  have c02 := L.b0.c32
  have f02 := L.b0.fr 2
  have c10 := L.tl.b0.c30
  have c11 := L.tl.b0.c31
  have c12 := L.tl.b0.c32
  (try go_wp2_with fail)
  have LP := L.putD (by omega) (by first | (simp; done) | (simp; omega)) (ng M) A9 (zl M) c9 (E)
  have k0 := LP.b0.c30
  have k1 := LP.b0.c31
  have k2 := LP.b0.c32
  unfold put3 at k0 k1 k2
  exact bodyPost_ret (v := .tuple #[.agg #[.bool (ng M), .slice A9 (zl M) c9, .int .i64 (E)], .int .i64 R]) (by simp [results, Tryz.results77, go_sem, k0, k1, k2]) rfl ⟨_, rfl, isD_n LP.hn, LP.below⟩
theorem own_lit0 (w : World) : Own (w.alloc (.cells #[] 137)) w.heap.size (.slice (some ⟨w.heap.size, 0, none⟩) 0 0) [] :=
  ⟨World.ownsRow_lit w #[] 0 (Nat.le_refl _) (by unfold maxLen; omega) rfl, small_nil⟩
/-- A natural, in memory that is not an argument's. -/
def RetNn (w : World) (x : Nat) (en : Ending) (w' : World) : Prop := ∃ v, en = .returned v ∧ IsN w' v x ∧ Below w.heap.size w w'
set_option maxHeartbeats 2000000 in
theorem clone_any (x : Nat) (vx : Value) (w : World) (hx : IsN w vx x) (hl : len x ≤ 1000000) :
    Calls Tryz.prog 209 #[vx] w (RetNn w x) := by
  obtain ⟨A, n, c, rfl, hs⟩ := hx
  have qT : ∀ (w : World) (a : Option Addr) (n c n' c' : Nat), (binOp .eql 22 (.slice a n c) (.slice none n' c')).run Tryz.prog w = .ok (.bool a.isNone) w := fun w a n c n' c' => Lib.run_eql_slice_nil w _ _ a n c n' c' Tryz.underlying22
  have hn : len x = n := by rw [← length_dig]; exact hs.len
  cases A with
  | none =>
    have hx0 : x = 0 := by
      rcases Nat.eq_zero_or_pos n with h0 | h0
      · rw [h0] at hn
        rcases Nat.eq_zero_or_pos x with h1 | h1
        · exact h1
        · have := len_pos h1
          omega
      · obtain ⟨_, _, e, _⟩ := hs.place h0
        cases e
    subst hx0
    clear hs hn hl
    go_enter Tryz.func209, Tryz.ntmps209
    go_wp2_with fail
    go_ret
    exact ⟨_, rfl, IsN.zero _, Below.refl _ _⟩
  | some a =>
    have hsl : n ≤ 1000000 := by omega
    have HS := Lib.hid hs
    clear hs hn hl
    go_enter Tryz.func209, Tryz.ntmps209
    go_wp2_with (at_builtin; refine wp_appS _ rfl _ _ rfl w.heap.size _ [] rfl (own_lit0 w) (some a) n c (dig x) rfl (HS.out.mono ((Below.refl _ w).alloc (Nat.le_refl _) _)) (by simp; omega) (by simp) ?_)
    intro v2 w2 h2 g2
    have b2 := ((Below.refl w.heap.size w).alloc (Nat.le_refl _) (.cells #[] 137)).grown g2 (by simp) (fun k hk => (own_lit0 w).blockGe k hk)
    have h2' : Own w2 w.heap.size v2 (dig x) := h2
    obtain ⟨A2, c2, e2, hs2, _⟩ := h2'.form
    clear h2 g2 h2'
    go_wp2_with fail
    go_ret
    exact ⟨v2, rfl, ⟨A2, _, c2, e2, hs2⟩, b2⟩

set_option maxHeartbeats 4000000 in
theorem icopied_any (m e : Int) (vx : Value) (w : World) (hx : IsD w vx m e) (lm : zl m ≤ 1000) :
    Calls Tryz.prog 201 #[vx] w (RetD8 w m e) := by
  obtain ⟨A, c, rfl, _, hn1⟩ := hx.form
  have L0 := (Lq.mk0 w).n hn1
  have HC := Lib.hid (fun v W h => clone_any m.natAbs v W h (show len m.natAbs ≤ 1000000 from Nat.le_trans lm (by omega)))
  clear hx hn1 lm
  go_enter Tryz.func201, Tryz.ntmps201
  go_wp2_with fail
  have L := ((L0.varD (w.heap.size) (by simp) (ng m) A (zl m) c e).varD (w.heap.size + 1) (by simp) false none 0 0 0)
  have c00 := L.b0.c30
  have f00 := L.b0.fr 0
  have c01 := L.b0.c31
  have f01 := L.b0.fr 1
  have c02 := L.b0.c32
  have f02 := L.b0.fr 2
  have c10 := L.tl.b0.c30
  have f10 := L.tl.b0.fr 0
  have c11 := L.tl.b0.c31
  have f11 := L.tl.b0.fr 1
  have c12 := L.tl.b0.c32
  have f12 := L.tl.b0.fr 2
  (try go_wp2_with fail)
  refine (HC.out _ _ (L.getN (v := .slice A (zl m) c) (x := (m).natAbs) (by simp))).mono ?_
  rintro e w1 ⟨v9, rfl, in9, be⟩
  clear c00 f00 c01 f01 c02 f02 c10 f10 c11 f11 c12 f12
  obtain ⟨A9, c9, e9⟩ := in9.form
  replace e9 : v9 = .slice A9 (zl m) c9 := e9
  subst e9
  replace L := (L.step be).n in9
  clear be in9
  replace L := L.swap
  have c00 := L.b0.c30
  have f00 := L.b0.fr 0
  have c01 := L.b0.c31
  have f01 := L.b0.fr 1
  have c02 := L.b0.c32
  have f02 := L.b0.fr 2
  have c10 := L.tl.b0.c30
  have f10 := L.tl.b0.fr 0
  have c11 := L.tl.b0.c31
  have f11 := L.tl.b0.fr 1
  have c12 := L.tl.b0.c32
  have f12 := L.tl.b0.fr 2
  have LS : Lq _ _ _ _ _ ((w.heap.size, 26, #[.bool (ng m), .slice A9 (zl m) c9, .int .i64 e]) :: _) := L.set (by omega) (by first | (simp; done) | (simp; omega)) 1 (.slice A9 (zl m) c9) (by intro x e; cases e)
  have s00 := LS.b0.c30
  have s01 := LS.b0.c31
  have s02 := LS.b0.c32
  have r00 := LS.tl.b0.fr 0
  have r01 := LS.tl.b0.fr 1
  have r02 := LS.tl.b0.fr 2
  (try go_wp2_with fail)
  clear s00 s01 s02 r00 r01 r02
  replace L := LS.swap
  clear LS
  have LP := L.putD (by omega) (by first | (simp; done) | (simp; omega)) (ng m) A9 (zl m) c9 (e)
  have k0 := LP.b0.c30
  have k1 := LP.b0.c31
  have k2 := LP.b0.c32
  unfold put3 at k0 k1 k2
  exact bodyPost_ret (v := .agg #[.bool (ng m), .slice A9 (zl m) c9, .int .i64 (e)]) (by simp [results, Tryz.results201, go_sem, k0, k1, k2]) rfl ⟨_, rfl, isD_n (LP.getN (by simp)), LP.below⟩
set_option maxHeartbeats 8000000 in
theorem ibetween_any (m e n f : Int) (vx vy : Value) (w : World) (hx : IsD w vx m e) (hy : IsD w vy n f) (lm : zl m ≤ 1000) (ln : zl n ≤ 1000) (he : -70000 ≤ e ∧ e ≤ 70000) (hf : -70000 ≤ f ∧ f ≤ 70000) :
    Calls Tryz.prog 182 #[vx, vy] w (RetI6 w m e n f) := by
  obtain ⟨A, c, rfl, _, hn1⟩ := hx.form
  obtain ⟨B, d, rfl, _, hn2⟩ := hy.form
  have L0 := ((Lq.mk0 w).n hn2).n hn1
  have H1 := Lib.hid (fun v W h => icopied_any m e v W h lm)
  have H2 := Lib.hid (fun v W h => icopied_any n f v W h ln)
  clear hx hy hn1 hn2 lm ln he hf
  go_enter Tryz.func182, Tryz.ntmps182
  go_wp2_with fail
  have L := (((L0.varD (w.heap.size) (by simp) (ng m) A (zl m) c e).varD (w.heap.size + 1) (by simp) (ng n) B (zl n) d f).varI (w.heap.size + 2) (by simp) false none 0 0 0 false none 0 0 0)
  replace L := L.drew
  have c00 := L.b0.c60
  have f00 := L.b0.fr 0
  have c01 := L.b0.c61
  have f01 := L.b0.fr 1
  have c02 := L.b0.c62
  have f02 := L.b0.fr 2
  have c03 := L.b0.c63
  have f03 := L.b0.fr 3
  have c04 := L.b0.c64
  have f04 := L.b0.fr 4
  have c05 := L.b0.c65
  have f05 := L.b0.fr 5
  have c10 := L.tl.b0.c30
  have c11 := L.tl.b0.c31
  have c12 := L.tl.b0.c32
  have c20 := L.tl.tl.b0.c30
  have c21 := L.tl.tl.b0.c31
  have c22 := L.tl.tl.b0.c32
  go_region_held3 (fun w' => w'.cell? ⟨w.heap.size, 0, none⟩ = some (.bool (ng m)) ∧ w'.cell? ⟨w.heap.size, 1, none⟩ = some (.slice A (zl m) c) ∧ w'.cell? ⟨w.heap.size, 2, none⟩ = some (.int .i64 e) ∧ w'.cell? ⟨w.heap.size + 1, 0, none⟩ = some (.bool (ng n)) ∧ w'.cell? ⟨w.heap.size + 1, 1, none⟩ = some (.slice B (zl n) d) ∧ w'.cell? ⟨w.heap.size + 1, 2, none⟩ = some (.int .i64 f)) (first | (with_reducible exact ⟨L.tl.tl.b0.c30, L.tl.tl.b0.c31, L.tl.tl.b0.c32, L.tl.b0.c30, L.tl.b0.c31, L.tl.b0.c32⟩) | (have LP := L.putI (by omega) (by first | (simp; done) | (simp; omega)) (ng m) A8 (zl m) c8 (e) (ng n) A9 (zl n) c9 (f); unfold put6 at LP; with_reducible exact ⟨LP.tl.tl.b0.c30, LP.tl.tl.b0.c31, LP.tl.tl.b0.c32, LP.tl.b0.c30, LP.tl.b0.c31, LP.tl.b0.c32⟩) | exact ⟨L.tl.tl.b0.c30, L.tl.tl.b0.c31, L.tl.tl.b0.c32, L.tl.b0.c30, L.tl.b0.c31, L.tl.b0.c32⟩) (first | (go_at_call 201; (with_reducible refine (H1.out _ _ ?_ ).mono ?_); (· (refine isD_n (L.getN ?_); (repeat (first | (with_reducible exact List.mem_cons_self) | apply List.mem_cons_of_mem)))); rintro e wh ⟨vh, rfl, id, be⟩; obtain ⟨A8, c8, rfl, _, in9⟩ := id.form; replace L := (L.step be).n in9; clear be id in9; (try (have x00 := L.b0.c60; have y00 := L.b0.fr 0; have x01 := L.b0.c61; have y01 := L.b0.fr 1; have x02 := L.b0.c62; have y02 := L.b0.fr 2; have x03 := L.b0.c63; have y03 := L.b0.fr 3; have x04 := L.b0.c64; have y04 := L.b0.fr 4; have x05 := L.b0.c65; have y05 := L.b0.fr 5))) | (go_at_call 201; (with_reducible refine (H2.out _ _ ?_ ).mono ?_); (· (refine isD_n (L.getN ?_); (repeat (first | (with_reducible exact List.mem_cons_self) | apply List.mem_cons_of_mem)))); rintro e wh ⟨vh, rfl, id, be⟩; obtain ⟨A9, c9, rfl, _, in9⟩ := id.form; replace L := (L.step be).n in9; clear be id in9; (try (have x00 := L.b0.c60; have y00 := L.b0.fr 0; have x01 := L.b0.c61; have y01 := L.b0.fr 1; have x02 := L.b0.c62; have y02 := L.b0.fr 2; have x03 := L.b0.c63; have y03 := L.b0.fr 3; have x04 := L.b0.c64; have y04 := L.b0.fr 4; have x05 := L.b0.c65; have y05 := L.b0.fr 5))))
  clear c00 f00 c01 f01 c02 f02 c03 f03 c04 f04 c05 f05 c10 c11 c12 c20 c21 c22
  go_wp2_with fail
  have LP := L.putI (by omega) (by first | (simp; done) | (simp; omega)) (ng m) A8 (zl m) c8 e (ng n) A9 (zl n) c9 f
  have k0 := LP.b0.c60
  have k1 := LP.b0.c61
  have k2 := LP.b0.c62
  have k3 := LP.b0.c63
  have k4 := LP.b0.c64
  have k5 := LP.b0.c65
  unfold put6 at k0 k1 k2 k3 k4 k5
  exact bodyPost_ret (v := .agg #[.bool (ng m), .slice A8 (zl m) c8, .int .i64 e, .bool (ng n), .slice A9 (zl n) c9, .int .i64 f]) (by simp [results, Tryz.results182, go_sem, k0, k1, k2, k3, k4, k5]) rfl ⟨_, rfl, isI_n (LP.getN (by simp)) (LP.getN (by simp)), LP.below⟩
set_option maxHeartbeats 4000000 in
theorem i10point_any (m e : Int) (vx : Value) (w : World) (hx : IsD w vx m e) (lm : zl m ≤ 1000) (he : -20000 ≤ e ∧ e ≤ 20000) (_hv : Dv m e) :
    Calls Tryz.prog 146 #[vx] w (RetI6 w m e m e) := by
  obtain ⟨A, c, rfl, _, hn1⟩ := hx.form
  have L0 := (Lq.mk0 w).n hn1
  have H1 := Lib.hid (fun v u W k1 k2 => ibetween_any m e m e v u W k1 k2 lm lm (by omega) (by omega))
  clear hx hn1 lm he
  go_enter Tryz.func146, Tryz.ntmps146
  go_wp2_with fail
  have L := ((L0.varD (w.heap.size) (by simp) (ng m) A (zl m) c e).varI (w.heap.size + 1) (by simp) false none 0 0 0 false none 0 0 0)
  have c00 := L.b0.c60
  have f00 := L.b0.fr 0
  have c01 := L.b0.c61
  have f01 := L.b0.fr 1
  have c02 := L.b0.c62
  have f02 := L.b0.fr 2
  have c03 := L.b0.c63
  have f03 := L.b0.fr 3
  have c04 := L.b0.c64
  have f04 := L.b0.fr 4
  have c05 := L.b0.c65
  have f05 := L.b0.fr 5
  have c10 := L.tl.b0.c30
  have c11 := L.tl.b0.c31
  have c12 := L.tl.b0.c32
  (try go_wp2_with fail)
  refine (H1.out _ _ _ (isD_n (m := m) (e := e) (s := .slice A (zl m) c) (L.getN (v := .slice A (zl m) c) (x := (m).natAbs) (by simp))) (isD_n (m := m) (e := e) (s := .slice A (zl m) c) (L.getN (v := .slice A (zl m) c) (x := (m).natAbs) (by simp)))).mono ?_
  rintro e w1 ⟨v8, rfl, ii, be⟩
  clear c00 f00 c01 f01 c02 f02 c03 f03 c04 f04 c05 f05 c10 c11 c12
  obtain ⟨A8, c8, B8, d8, rfl, ia, ib⟩ := ii.form
  replace L := ((L.step be).n ib).n ia
  clear be ii ia ib
  have c00 := L.b0.c60
  have f00 := L.b0.fr 0
  have c01 := L.b0.c61
  have f01 := L.b0.fr 1
  have c02 := L.b0.c62
  have f02 := L.b0.fr 2
  have c03 := L.b0.c63
  have f03 := L.b0.fr 3
  have c04 := L.b0.c64
  have f04 := L.b0.fr 4
  have c05 := L.b0.c65
  have f05 := L.b0.fr 5
  (try go_wp2_with fail)
  have LP := L.putI (by omega) (by first | (simp; done) | (simp; omega)) (ng m) A8 (zl m) c8 e (ng m) B8 (zl m) d8 e
  have k0 := LP.b0.c60
  have k1 := LP.b0.c61
  have k2 := LP.b0.c62
  have k3 := LP.b0.c63
  have k4 := LP.b0.c64
  have k5 := LP.b0.c65
  unfold put6 at k0 k1 k2 k3 k4 k5
  exact bodyPost_ret (v := .agg #[.bool (ng m), .slice A8 (zl m) c8, .int .i64 e, .bool (ng m), .slice B8 (zl m) d8, .int .i64 e]) (by simp [results, Tryz.results146, go_sem, k0, k1, k2, k3, k4, k5]) rfl ⟨_, rfl, isI_n (LP.getN (by simp)) (LP.getN (by simp)), LP.below⟩
set_option maxHeartbeats 100000000 in
theorem adiv_pos (m e n f m2 e2 n2 f2 k : Int) (vx vy : Value) (w : World) (hx : IsI w vx m e n f) (hy : IsI w vy m2 e2 n2 f2) (lm : zl m ≤ 140) (ln : zl n ≤ 140) (lm2 : zl m2 ≤ 140) (ln2 : zl n2 ≤ 140) (he : -4500 ≤ e ∧ e ≤ 4500) (hf : -4500 ≤ f ∧ f ≤ 4500) (he2 : -4500 ≤ e2 ∧ e2 ≤ 4500) (hf2 : -4500 ≤ f2 ∧ f2 ≤ 4500) (hd1 : dcm m e n f ≤ 0) (hd2 : dcm m2 e2 n2 f2 ≤ 0) (hk1 : -9223372036854775808 ≤ k) (hk2 : k ≤ 9223372036854775807) (hT : Tab w) (hw : workB k = true) (hxy : cmpI m2 0 = cmpI n2 0) (hx0 : ¬ cmpI m2 0 = 0) (hx1 : ¬ cmpI m2 0 < 0) :
    Calls Tryz.prog 145 #[vx, vy, .int .i64 k] w (RetEn w (min4 (dq m e / dq m2 e2) (dq m e / dq n2 f2) (dq n f / dq m2 e2) (dq n f / dq n2 f2)) (max4 (dq m e / dq m2 e2) (dq m e / dq n2 f2) (dq n f / dq m2 e2) (dq n f / dq n2 f2)) k) := by
  obtain ⟨A, c, B, d, rfl, hn1, hn2⟩ := hx.form
  obtain ⟨A2, k2, B2, d2, rfl, hn3, hn4⟩ := hy.form
  have L0 := ((((Lq.mk0 w).n hn4).n hn3).n hn2).n hn1
  have S0 := fun v W h => i10sign_any m2 e2 n2 f2 v W h (by omega) (by omega) (by omega) (by omega)
  have HW0 := fun W => aperm_any k W
  unfold RetSg at S0
  rw [hw] at HW0
  have HW := Lib.hid HW0
  clear HW0
  obtain ⟨ps1, ps2⟩ := (cmp_signs hxy).2 hx1 hx0
  obtain ⟨x, hx9⟩ : ∃ x, cmpI m2 0 = x := ⟨_, rfl⟩
  rw [if_pos hxy, decide_eq_true hxy] at S0
  rw [hx9] at S0 hx0 hx1
  have S := Lib.hid S0
  clear S0 hx9 hxy
  have b1 : (x == 0) = false := by simpa using hx0
  obtain ⟨lo, hlo⟩ : ∃ z, min4 (dq m e / dq m2 e2) (dq m e / dq n2 f2) (dq n f / dq m2 e2) (dq n f / dq n2 f2) = z := ⟨_, rfl⟩
  obtain ⟨hi, hhi⟩ : ∃ z, max4 (dq m e / dq m2 e2) (dq m e / dq n2 f2) (dq n f / dq m2 e2) (dq n f / dq n2 f2) = z := ⟨_, rfl⟩
  rw [hlo, hhi]
  have b2 : decide (x < 0) = false := decide_eq_false hx1
  have fl : min4 (dq m e / dq m2 e2) (dq m e / dq n2 f2) (dq n f / dq m2 e2) (dq n f / dq n2 f2) = lo := hlo
  have fh : max4 (dq m e / dq m2 e2) (dq m e / dq n2 f2) (dq n f / dq m2 e2) (dq n f / dq n2 f2) = hi := hhi
  have bs1 := fun v u z W h1 h2 h3 => absign_any m e m2 e2 n2 f2 v u z W h1 h2 h3 (by omega)
  have v1 := quo_lo hd1 hd2 ps1 ps2
  obtain ⟨p1, hp1⟩ : ∃ p, (if m < 0 then m2 else n2) = p := ⟨_, rfl⟩
  obtain ⟨s1, hs1⟩ : ∃ p, (if m < 0 then e2 else f2) = p := ⟨_, rfl⟩
  have pb1 : zl p1 ≤ 140 ∧ (-4500 ≤ s1 ∧ s1 ≤ 4500) ∧ p1 ≠ 0 := by rw [← hp1, ← hs1]; split <;> refine ⟨by omega, by omega, by omega⟩
  rw [hp1, hs1] at bs1 v1
  have qu1 := fun v u W h1 h2 => aquot_any m e p1 s1 v u W h1 h2 (by omega) (by omega) (by omega) (by omega) pb1.2.2
  have qs1 := qt_small (m := m) (e := e) (n := p1) (f := s1) pb1.2.2 (by omega) (by omega) (by omega) (by omega)
  have qp1 := qt_pos m e p1 s1
  obtain ⟨qa1, ha1⟩ : ∃ x, qtA m e p1 s1 = x := ⟨_, rfl⟩
  obtain ⟨qd1, hdd1⟩ : ∃ x, qtD m e p1 s1 = x := ⟨_, rfl⟩
  rw [ha1, hdd1] at v1 qu1 qs1
  rw [hdd1] at qp1
  rw [fl] at v1
  have bs2 := fun v u z W h1 h2 h3 => absign_any n f n2 f2 m2 e2 v u z W h1 h2 h3 (by omega)
  have v2 := quo_hi hd1 hd2 ps1 ps2
  obtain ⟨p2, hp2⟩ : ∃ p, (if n < 0 then n2 else m2) = p := ⟨_, rfl⟩
  obtain ⟨s2, hs2⟩ : ∃ p, (if n < 0 then f2 else e2) = p := ⟨_, rfl⟩
  have pb2 : zl p2 ≤ 140 ∧ (-4500 ≤ s2 ∧ s2 ≤ 4500) ∧ p2 ≠ 0 := by rw [← hp2, ← hs2]; split <;> refine ⟨by omega, by omega, by omega⟩
  rw [hp2, hs2] at bs2 v2
  have qu2 := fun v u W h1 h2 => aquot_any n f p2 s2 v u W h1 h2 (by omega) (by omega) (by omega) (by omega) pb2.2.2
  have qs2 := qt_small (m := n) (e := f) (n := p2) (f := s2) pb2.2.2 (by omega) (by omega) (by omega) (by omega)
  have qp2 := qt_pos n f p2 s2
  obtain ⟨qa2, ha2⟩ : ∃ x, qtA n f p2 s2 = x := ⟨_, rfl⟩
  obtain ⟨qd2, hdd2⟩ : ∃ x, qtD n f p2 s2 = x := ⟨_, rfl⟩
  rw [ha2, hdd2] at v2 qu2 qs2
  rw [hdd2] at qp2
  rw [fh] at v2
  have en := fun v u W h1 h2 (hW : Below w.heap.size w W) => aenclR_any qa1 qd1 qa2 qd2 k v u W h1 h2 qs1.1 qs1.2 qp1 qs2.1 qs2.2 qp2 hw (hT.mono hW)
  rw [v1, v2] at en
  have BS1 := Lib.hid bs1
  have BS2 := Lib.hid bs2
  have QU1 := Lib.hid qu1
  have QU2 := Lib.hid qu2
  have EN := Lib.hid en
  clear bs1 bs2 qu1 qu2 en v1 v2 hp1 hp2 hs1 hs2 pb1 pb2 qs1 qs2 qp1 qp2 ha1 ha2 hdd1 hdd2
  clear fl fh hlo hhi hw hx0 hx1 ps1 ps2 hx hy hn1 hn2 hn3 hn4 lm ln lm2 ln2 he hf he2 hf2 hd1 hd2 hk1 hk2 hT
  go_enter Tryz.func145, Tryz.ntmps145
  go_wp2_with fail
  have L := (((L0.varI (w.heap.size) (by simp) (ng m) A (zl m) c e (ng n) B (zl n) d f).varI (w.heap.size + 1) (by simp) (ng m2) A2 (zl m2) k2 e2 (ng n2) B2 (zl n2) d2 f2).varI (w.heap.size + 2) (by simp) false none 0 0 0 false none 0 0 0)
  obtain ⟨gr, hgr⟩ : ∃ gr, w.heap.size + 1 + 1 = gr := ⟨_, rfl⟩
  have hgr2 : w.heap.size + 2 = gr := hgr
  rw [hgr2] at L
  rw [hgr]
  have hgr3 : w.heap.size + 1 < gr := by omega
  clear hgr hgr2
  have c00 := L.b0.c60
  have f00 := L.b0.fr 0
  have c01 := L.b0.c61
  have f01 := L.b0.fr 1
  have c02 := L.b0.c62
  have f02 := L.b0.fr 2
  have c03 := L.b0.c63
  have f03 := L.b0.fr 3
  have c04 := L.b0.c64
  have f04 := L.b0.fr 4
  have c05 := L.b0.c65
  have f05 := L.b0.fr 5
  have c10 := L.tl.b0.c60
  have c11 := L.tl.b0.c61
  have c12 := L.tl.b0.c62
  have c13 := L.tl.b0.c63
  have c14 := L.tl.b0.c64
  have c15 := L.tl.b0.c65
  (try go_wp2_with fail)
  refine (S.out _ _ (isI_n (m := m2) (e := e2) (n := n2) (f := f2) (L.getN (v := .slice A2 (zl m2) k2) (x := (m2).natAbs) (by simp)) (L.getN (v := .slice B2 (zl n2) d2) (x := (n2).natAbs) (by simp)))).mono ?_
  rintro e w1 ⟨rfl, be⟩
  clear c00 f00 c01 f01 c02 f02 c03 f03 c04 f04 c05 f05 c10 c11 c12 c13 c14 c15
  replace L := L.step be
  clear be
  have c00 := L.b0.c60
  have f00 := L.b0.fr 0
  have c01 := L.b0.c61
  have f01 := L.b0.fr 1
  have c02 := L.b0.c62
  have f02 := L.b0.fr 2
  have c03 := L.b0.c63
  have f03 := L.b0.fr 3
  have c04 := L.b0.c64
  have f04 := L.b0.fr 4
  have c05 := L.b0.c65
  have f05 := L.b0.fr 5
  (try go_wp2_with fail)
  refine (HW.out _).mono ?_
  rintro e9 w' ⟨rfl, rfl⟩
  (try go_wp2_with fail)
  clear c00 f00 c01 f01 c02 f02 c03 f03 c04 f04 c05 f05
  have Q0 := Lib.hid (fun Z (hZ : Below w1.heap.size w1 Z) => (L.tl.tl.b0.mono hZ).c60)
  have Q1 := Lib.hid (fun Z (hZ : Below w1.heap.size w1 Z) => (L.tl.tl.b0.mono hZ).c61)
  have Q2 := Lib.hid (fun Z (hZ : Below w1.heap.size w1 Z) => (L.tl.tl.b0.mono hZ).c62)
  have Q3 := Lib.hid (fun Z (hZ : Below w1.heap.size w1 Z) => (L.tl.tl.b0.mono hZ).c63)
  have Q4 := Lib.hid (fun Z (hZ : Below w1.heap.size w1 Z) => (L.tl.tl.b0.mono hZ).c64)
  have Q5 := Lib.hid (fun Z (hZ : Below w1.heap.size w1 Z) => (L.tl.tl.b0.mono hZ).c65)
  have Q6 := Lib.hid (fun Z (hZ : Below w1.heap.size w1 Z) => (L.tl.b0.mono hZ).c60)
  have Q7 := Lib.hid (fun Z (hZ : Below w1.heap.size w1 Z) => (L.tl.b0.mono hZ).c61)
  have Q8 := Lib.hid (fun Z (hZ : Below w1.heap.size w1 Z) => (L.tl.b0.mono hZ).c62)
  have Q9 := Lib.hid (fun Z (hZ : Below w1.heap.size w1 Z) => (L.tl.b0.mono hZ).c63)
  have Q10 := Lib.hid (fun Z (hZ : Below w1.heap.size w1 Z) => (L.tl.b0.mono hZ).c64)
  have Q11 := Lib.hid (fun Z (hZ : Below w1.heap.size w1 Z) => (L.tl.b0.mono hZ).c65)
  have hb1 := L.tl.tl.b0.lt
  have hb2 := L.tl.b0.lt
  have D0 : Dq w1 w1 [(.slice A (zl m) c, m.natAbs), (.slice B (zl n) d, n.natAbs), (.slice A2 (zl m2) k2, m2.natAbs), (.slice B2 (zl n2) d2, n2.natAbs)] [] [] [] := ⟨((((Lq.mk0 w1).n (L.getN (v := .slice B2 (zl n2) d2) (x := (n2).natAbs) (by simp))).n (L.getN (v := .slice A2 (zl m2) k2) (x := (m2).natAbs) (by simp))).n (L.getN (v := .slice B (zl n) d) (x := (n).natAbs) (by simp))).n (L.getN (v := .slice A (zl m) c) (x := (m).natAbs) (by simp)), List.nodup_nil, fun p hp => by cases hp⟩
  have D := D0.drew
  have LL := Lib.hid L
  clear L
  obtain ⟨K, hK⟩ : ∃ K, w1.heap.size = K := ⟨_, rfl⟩
  have hz0 : K ≤ w1.heap.size := by omega
  have hc1 : w.heap.size < K := by omega
  have hc2 : w.heap.size + 1 < K := by omega
  have hmd : w1.drew.heap.size = K := hK
  go_cut [10] from 40 to 50 (fun s5 wx => Made1Q w1 qa1 qd1 s5 wx)
  case first =>
    go_region_held3 (fun w' => w'.cell? ⟨w.heap.size, 0, none⟩ = some (.bool (ng m)) ∧ w'.cell? ⟨w.heap.size, 1, none⟩ = some (.slice A (zl m) c) ∧ w'.cell? ⟨w.heap.size, 2, none⟩ = some (.int .i64 e) ∧ w'.cell? ⟨w.heap.size, 3, none⟩ = some (.bool (ng n)) ∧ w'.cell? ⟨w.heap.size, 4, none⟩ = some (.slice B (zl n) d) ∧ w'.cell? ⟨w.heap.size, 5, none⟩ = some (.int .i64 f) ∧ w'.cell? ⟨w.heap.size + 1, 0, none⟩ = some (.bool (ng m2)) ∧ w'.cell? ⟨w.heap.size + 1, 1, none⟩ = some (.slice A2 (zl m2) k2) ∧ w'.cell? ⟨w.heap.size + 1, 2, none⟩ = some (.int .i64 e2) ∧ w'.cell? ⟨w.heap.size + 1, 3, none⟩ = some (.bool (ng n2)) ∧ w'.cell? ⟨w.heap.size + 1, 4, none⟩ = some (.slice B2 (zl n2) d2) ∧ w'.cell? ⟨w.heap.size + 1, 5, none⟩ = some (.int .i64 f2)) (((try dsimp only); refine ⟨?_, ?_, ?_, ?_, ?_, ?_, ?_, ?_, ?_, ?_, ?_, ?_⟩ <;> (repeat (first | (with_reducible exact Q0.out _ D.lq.below) | (with_reducible exact Q0.out _ D0.lq.below) | (with_reducible exact Q1.out _ D.lq.below) | (with_reducible exact Q1.out _ D0.lq.below) | (with_reducible exact Q2.out _ D.lq.below) | (with_reducible exact Q2.out _ D0.lq.below) | (with_reducible exact Q3.out _ D.lq.below) | (with_reducible exact Q3.out _ D0.lq.below) | (with_reducible exact Q4.out _ D.lq.below) | (with_reducible exact Q4.out _ D0.lq.below) | (with_reducible exact Q5.out _ D.lq.below) | (with_reducible exact Q5.out _ D0.lq.below) | (with_reducible exact Q6.out _ D.lq.below) | (with_reducible exact Q6.out _ D0.lq.below) | (with_reducible exact Q7.out _ D.lq.below) | (with_reducible exact Q7.out _ D0.lq.below) | (with_reducible exact Q8.out _ D.lq.below) | (with_reducible exact Q8.out _ D0.lq.below) | (with_reducible exact Q9.out _ D.lq.below) | (with_reducible exact Q9.out _ D0.lq.below) | (with_reducible exact Q10.out _ D.lq.below) | (with_reducible exact Q10.out _ D0.lq.below) | (with_reducible exact Q11.out _ D.lq.below) | (with_reducible exact Q11.out _ D0.lq.below) | (with_reducible refine c_alloc _ ?_) | (with_reducible refine c_drew ?_) | (with_reducible refine c_set ?_ (by assumption) ?_) | omega)))) (first | (go_at_call 179; (with_reducible refine (BS1.out _ _ _ _ ?_ ?_ ?_).mono ?_); (· (first | (with_reducible refine isD_n (D.getN ?_); (repeat (first | (with_reducible exact List.mem_cons_self) | apply List.mem_cons_of_mem))) | (with_reducible refine isD_n ((D.box false none none 0 0 0 0).getN ?_); (repeat (first | (with_reducible exact List.mem_cons_self) | apply List.mem_cons_of_mem))) | (with_reducible refine isD_n ((D0.box false none none 0 0 0 0).drew.getN ?_); (repeat (first | (with_reducible exact List.mem_cons_self) | apply List.mem_cons_of_mem))))); (· (first | (with_reducible refine isD_n (D.getN ?_); (repeat (first | (with_reducible exact List.mem_cons_self) | apply List.mem_cons_of_mem))) | (with_reducible refine isD_n ((D.box false none none 0 0 0 0).getN ?_); (repeat (first | (with_reducible exact List.mem_cons_self) | apply List.mem_cons_of_mem))) | (with_reducible refine isD_n ((D0.box false none none 0 0 0 0).drew.getN ?_); (repeat (first | (with_reducible exact List.mem_cons_self) | apply List.mem_cons_of_mem))))); (· (first | (with_reducible refine isD_n (D.getN ?_); (repeat (first | (with_reducible exact List.mem_cons_self) | apply List.mem_cons_of_mem))) | (with_reducible refine isD_n ((D.box false none none 0 0 0 0).getN ?_); (repeat (first | (with_reducible exact List.mem_cons_self) | apply List.mem_cons_of_mem))) | (with_reducible refine isD_n ((D0.box false none none 0 0 0 0).drew.getN ?_); (repeat (first | (with_reducible exact List.mem_cons_self) | apply List.mem_cons_of_mem))))); rintro e9 wh ⟨vh, rfl, id, be⟩; obtain ⟨A7, c7, rfl, _, in9⟩ := id.form; (first | (replace D := D.step be) | (replace D := (D.boxM hmd false none none 0 0 0 0).step be) | (replace D := (D.box false none none 0 0 0 0).step be)); have hz := be.size; (try simp at hz); replace D := D.n in9; clear id in9; (try (have x00 := D.lq.b0.c30; have x01 := D.lq.b0.c31; have x02 := D.lq.b0.c32; have y00 := D.lq.b0.fr 0; have y01 := D.lq.b0.fr 1; have y02 := D.lq.b0.fr 2)); (try obtain ⟨na, nb, nc, nd, nl⟩ := D.n0)) | (go_at_call 178; (with_reducible refine (QU1.out _ _ _ ?_ ?_).mono ?_); (· (first | (with_reducible refine isD_n (D.getN ?_); (repeat (first | (with_reducible exact List.mem_cons_self) | apply List.mem_cons_of_mem))) | (with_reducible refine isD_n ((D.box false none none 0 0 0 0).getN ?_); (repeat (first | (with_reducible exact List.mem_cons_self) | apply List.mem_cons_of_mem))) | (with_reducible refine isD_n ((D0.box false none none 0 0 0 0).drew.getN ?_); (repeat (first | (with_reducible exact List.mem_cons_self) | apply List.mem_cons_of_mem))))); (· (first | (with_reducible refine isD_n (D.getN ?_); (repeat (first | (with_reducible exact List.mem_cons_self) | apply List.mem_cons_of_mem))) | (with_reducible refine isD_n ((D.box false none none 0 0 0 0).getN ?_); (repeat (first | (with_reducible exact List.mem_cons_self) | apply List.mem_cons_of_mem))) | (with_reducible refine isD_n ((D0.box false none none 0 0 0 0).drew.getN ?_); (repeat (first | (with_reducible exact List.mem_cons_self) | apply List.mem_cons_of_mem))))); rintro e9 wh ⟨vh, rfl, iq, be⟩; obtain ⟨A8, c8, B8, k8, rfl, _, _, _⟩ := iq.form; (first | (replace D := D.step be) | (replace D := (D.boxM hmd false none none 0 0 0 0).step be) | (replace D := (D.box false none none 0 0 0 0).step be)); have hz := be.size; (try simp at hz); replace D := D.q iq; clear iq; (try (have x00 := D.lq.b0.c30; have x01 := D.lq.b0.c31; have x02 := D.lq.b0.c32; have y00 := D.lq.b0.fr 0; have y01 := D.lq.b0.fr 1; have y02 := D.lq.b0.fr 2)); (try obtain ⟨na, nb, nc, nd, nl⟩ := D.n0)))
    all_goals
      go_wp2_with fail
      go_meet
      first
      | ((with_reducible refine made1q_a D ?_) <;> (repeat (first | (with_reducible exact List.mem_cons_self) | apply List.mem_cons_of_mem)))
      | ((with_reducible refine made1q_b D ?_) <;> (repeat (first | (with_reducible exact List.mem_cons_self) | apply List.mem_cons_of_mem)))
  case rest =>
    obtain ⟨gq1, Aq1, cq1, Bq1, kq1, rfl, hg, bw, hb3, iq⟩ := hcut
    have hg4 := LL.out.b0.lt
    have hgq1 : gr < gq1 := by omega
    have hgs1 := hb3.lt
    have L := ((LL.out.step bw).q iq).b hb3
    clear D D0 hmd hz0 hK LL hb3 iq bw hb1 hb2 hc1 hc2 hg hg4 Q0 Q1 Q2 Q3 Q4 Q5 Q6 Q7 Q8 Q9 Q10 Q11
    generalize wc = wd1 at *
    (try go_wp2_with fail)
    replace L := L.swap
    have Q0 := Lib.hid (fun Z (hZ : Below wd1.heap.size wd1 Z) => (L.tl.tl.tl.b0.mono hZ).c60)
    have Q1 := Lib.hid (fun Z (hZ : Below wd1.heap.size wd1 Z) => (L.tl.tl.tl.b0.mono hZ).c61)
    have Q2 := Lib.hid (fun Z (hZ : Below wd1.heap.size wd1 Z) => (L.tl.tl.tl.b0.mono hZ).c62)
    have Q3 := Lib.hid (fun Z (hZ : Below wd1.heap.size wd1 Z) => (L.tl.tl.tl.b0.mono hZ).c63)
    have Q4 := Lib.hid (fun Z (hZ : Below wd1.heap.size wd1 Z) => (L.tl.tl.tl.b0.mono hZ).c64)
    have Q5 := Lib.hid (fun Z (hZ : Below wd1.heap.size wd1 Z) => (L.tl.tl.tl.b0.mono hZ).c65)
    have Q6 := Lib.hid (fun Z (hZ : Below wd1.heap.size wd1 Z) => (L.tl.tl.b0.mono hZ).c60)
    have Q7 := Lib.hid (fun Z (hZ : Below wd1.heap.size wd1 Z) => (L.tl.tl.b0.mono hZ).c61)
    have Q8 := Lib.hid (fun Z (hZ : Below wd1.heap.size wd1 Z) => (L.tl.tl.b0.mono hZ).c62)
    have Q9 := Lib.hid (fun Z (hZ : Below wd1.heap.size wd1 Z) => (L.tl.tl.b0.mono hZ).c63)
    have Q10 := Lib.hid (fun Z (hZ : Below wd1.heap.size wd1 Z) => (L.tl.tl.b0.mono hZ).c64)
    have Q11 := Lib.hid (fun Z (hZ : Below wd1.heap.size wd1 Z) => (L.tl.tl.b0.mono hZ).c65)
    have hb1 := L.tl.tl.tl.b0.lt
    have hb2 := L.tl.tl.b0.lt
    have D0 : Dq wd1 wd1 [(.slice A (zl m) c, m.natAbs), (.slice B (zl n) d, n.natAbs), (.slice A2 (zl m2) k2, m2.natAbs), (.slice B2 (zl n2) d2, n2.natAbs)] [] [] [] := ⟨((((Lq.mk0 wd1).n (L.getN (v := .slice B2 (zl n2) d2) (x := (n2).natAbs) (by simp))).n (L.getN (v := .slice A2 (zl m2) k2) (x := (m2).natAbs) (by simp))).n (L.getN (v := .slice B (zl n) d) (x := (n).natAbs) (by simp))).n (L.getN (v := .slice A (zl m) c) (x := (m).natAbs) (by simp)), List.nodup_nil, fun p hp => by cases hp⟩
    have D := D0.drew
    have LL := Lib.hid L
    clear L
    obtain ⟨K, hK⟩ : ∃ K, wd1.heap.size = K := ⟨_, rfl⟩
    have hz0 : K ≤ wd1.heap.size := by omega
    have hc1 : w.heap.size < K := by omega
    have hc2 : w.heap.size + 1 < K := by omega
    have hmd : wd1.drew.heap.size = K := hK
    go_cut [11] from 50 to 60 (fun s5 wx => Made1Q wd1 qa2 qd2 s5 wx)
    case first =>
      go_region_held3 (fun w' => w'.cell? ⟨w.heap.size, 0, none⟩ = some (.bool (ng m)) ∧ w'.cell? ⟨w.heap.size, 1, none⟩ = some (.slice A (zl m) c) ∧ w'.cell? ⟨w.heap.size, 2, none⟩ = some (.int .i64 e) ∧ w'.cell? ⟨w.heap.size, 3, none⟩ = some (.bool (ng n)) ∧ w'.cell? ⟨w.heap.size, 4, none⟩ = some (.slice B (zl n) d) ∧ w'.cell? ⟨w.heap.size, 5, none⟩ = some (.int .i64 f) ∧ w'.cell? ⟨w.heap.size + 1, 0, none⟩ = some (.bool (ng m2)) ∧ w'.cell? ⟨w.heap.size + 1, 1, none⟩ = some (.slice A2 (zl m2) k2) ∧ w'.cell? ⟨w.heap.size + 1, 2, none⟩ = some (.int .i64 e2) ∧ w'.cell? ⟨w.heap.size + 1, 3, none⟩ = some (.bool (ng n2)) ∧ w'.cell? ⟨w.heap.size + 1, 4, none⟩ = some (.slice B2 (zl n2) d2) ∧ w'.cell? ⟨w.heap.size + 1, 5, none⟩ = some (.int .i64 f2)) (((try dsimp only); refine ⟨?_, ?_, ?_, ?_, ?_, ?_, ?_, ?_, ?_, ?_, ?_, ?_⟩ <;> (repeat (first | (with_reducible exact Q0.out _ D.lq.below) | (with_reducible exact Q0.out _ D0.lq.below) | (with_reducible exact Q1.out _ D.lq.below) | (with_reducible exact Q1.out _ D0.lq.below) | (with_reducible exact Q2.out _ D.lq.below) | (with_reducible exact Q2.out _ D0.lq.below) | (with_reducible exact Q3.out _ D.lq.below) | (with_reducible exact Q3.out _ D0.lq.below) | (with_reducible exact Q4.out _ D.lq.below) | (with_reducible exact Q4.out _ D0.lq.below) | (with_reducible exact Q5.out _ D.lq.below) | (with_reducible exact Q5.out _ D0.lq.below) | (with_reducible exact Q6.out _ D.lq.below) | (with_reducible exact Q6.out _ D0.lq.below) | (with_reducible exact Q7.out _ D.lq.below) | (with_reducible exact Q7.out _ D0.lq.below) | (with_reducible exact Q8.out _ D.lq.below) | (with_reducible exact Q8.out _ D0.lq.below) | (with_reducible exact Q9.out _ D.lq.below) | (with_reducible exact Q9.out _ D0.lq.below) | (with_reducible exact Q10.out _ D.lq.below) | (with_reducible exact Q10.out _ D0.lq.below) | (with_reducible exact Q11.out _ D.lq.below) | (with_reducible exact Q11.out _ D0.lq.below) | (with_reducible refine c_alloc _ ?_) | (with_reducible refine c_drew ?_) | (with_reducible refine c_set ?_ (by assumption) ?_) | omega)))) (first | (go_at_call 179; (with_reducible refine (BS2.out _ _ _ _ ?_ ?_ ?_).mono ?_); (· (first | (with_reducible refine isD_n (D.getN ?_); (repeat (first | (with_reducible exact List.mem_cons_self) | apply List.mem_cons_of_mem))) | (with_reducible refine isD_n ((D.box false none none 0 0 0 0).getN ?_); (repeat (first | (with_reducible exact List.mem_cons_self) | apply List.mem_cons_of_mem))) | (with_reducible refine isD_n ((D0.box false none none 0 0 0 0).drew.getN ?_); (repeat (first | (with_reducible exact List.mem_cons_self) | apply List.mem_cons_of_mem))))); (· (first | (with_reducible refine isD_n (D.getN ?_); (repeat (first | (with_reducible exact List.mem_cons_self) | apply List.mem_cons_of_mem))) | (with_reducible refine isD_n ((D.box false none none 0 0 0 0).getN ?_); (repeat (first | (with_reducible exact List.mem_cons_self) | apply List.mem_cons_of_mem))) | (with_reducible refine isD_n ((D0.box false none none 0 0 0 0).drew.getN ?_); (repeat (first | (with_reducible exact List.mem_cons_self) | apply List.mem_cons_of_mem))))); (· (first | (with_reducible refine isD_n (D.getN ?_); (repeat (first | (with_reducible exact List.mem_cons_self) | apply List.mem_cons_of_mem))) | (with_reducible refine isD_n ((D.box false none none 0 0 0 0).getN ?_); (repeat (first | (with_reducible exact List.mem_cons_self) | apply List.mem_cons_of_mem))) | (with_reducible refine isD_n ((D0.box false none none 0 0 0 0).drew.getN ?_); (repeat (first | (with_reducible exact List.mem_cons_self) | apply List.mem_cons_of_mem))))); rintro e9 wh ⟨vh, rfl, id, be⟩; obtain ⟨A7, c7, rfl, _, in9⟩ := id.form; (first | (replace D := D.step be) | (replace D := (D.boxM hmd false none none 0 0 0 0).step be) | (replace D := (D.box false none none 0 0 0 0).step be)); have hz := be.size; (try simp at hz); replace D := D.n in9; clear id in9; (try (have x00 := D.lq.b0.c30; have x01 := D.lq.b0.c31; have x02 := D.lq.b0.c32; have y00 := D.lq.b0.fr 0; have y01 := D.lq.b0.fr 1; have y02 := D.lq.b0.fr 2)); (try obtain ⟨na, nb, nc, nd, nl⟩ := D.n0)) | (go_at_call 178; (with_reducible refine (QU2.out _ _ _ ?_ ?_).mono ?_); (· (first | (with_reducible refine isD_n (D.getN ?_); (repeat (first | (with_reducible exact List.mem_cons_self) | apply List.mem_cons_of_mem))) | (with_reducible refine isD_n ((D.box false none none 0 0 0 0).getN ?_); (repeat (first | (with_reducible exact List.mem_cons_self) | apply List.mem_cons_of_mem))) | (with_reducible refine isD_n ((D0.box false none none 0 0 0 0).drew.getN ?_); (repeat (first | (with_reducible exact List.mem_cons_self) | apply List.mem_cons_of_mem))))); (· (first | (with_reducible refine isD_n (D.getN ?_); (repeat (first | (with_reducible exact List.mem_cons_self) | apply List.mem_cons_of_mem))) | (with_reducible refine isD_n ((D.box false none none 0 0 0 0).getN ?_); (repeat (first | (with_reducible exact List.mem_cons_self) | apply List.mem_cons_of_mem))) | (with_reducible refine isD_n ((D0.box false none none 0 0 0 0).drew.getN ?_); (repeat (first | (with_reducible exact List.mem_cons_self) | apply List.mem_cons_of_mem))))); rintro e9 wh ⟨vh, rfl, iq, be⟩; obtain ⟨A8, c8, B8, k8, rfl, _, _, _⟩ := iq.form; (first | (replace D := D.step be) | (replace D := (D.boxM hmd false none none 0 0 0 0).step be) | (replace D := (D.box false none none 0 0 0 0).step be)); have hz := be.size; (try simp at hz); replace D := D.q iq; clear iq; (try (have x00 := D.lq.b0.c30; have x01 := D.lq.b0.c31; have x02 := D.lq.b0.c32; have y00 := D.lq.b0.fr 0; have y01 := D.lq.b0.fr 1; have y02 := D.lq.b0.fr 2)); (try obtain ⟨na, nb, nc, nd, nl⟩ := D.n0)))
      all_goals
        go_wp2_with fail
        go_meet
        first
        | ((with_reducible refine made1q_a D ?_) <;> (repeat (first | (with_reducible exact List.mem_cons_self) | apply List.mem_cons_of_mem)))
        | ((with_reducible refine made1q_b D ?_) <;> (repeat (first | (with_reducible exact List.mem_cons_self) | apply List.mem_cons_of_mem)))
    case rest =>
      obtain ⟨gq2, Aq2, cq2, Bq2, kq2, rfl, hg, bw, hb3, iq⟩ := hcut
      have hg4 := LL.out.b0.lt
      have hgq2 : gr < gq2 := by omega
      have hgs2 := hb3.lt
      have L := ((LL.out.step bw).q iq).b hb3
      clear D D0 hmd hz0 hK LL hb3 iq bw hb1 hb2 hc1 hc2 hg hg4 Q0 Q1 Q2 Q3 Q4 Q5 Q6 Q7 Q8 Q9 Q10 Q11
      generalize wc = wd2 at *
      have c00 := L.b0.c30
      have c01 := L.b0.c31
      have c02 := L.b0.c32
      have c20 := L.tl.tl.b0.c30
      have c21 := L.tl.tl.b0.c31
      have c22 := L.tl.tl.b0.c32
      (try go_wp2_with fail)
      refine (EN.out _ _ _ (L.getQ (v := .agg #[.bool (ng qa1), .slice Aq1 (zl qa1) cq1, .slice Bq1 (len qd1) kq1]) (a := qa1) (d := qd1) (by simp)) (L.getQ (v := .agg #[.bool (ng qa2), .slice Aq2 (zl qa2) cq2, .slice Bq2 (len qd2) kq2]) (a := qa2) (d := qd2) (by simp)) L.below).mono ?_
      intro e9 w19 hen
      obtain ⟨v19, er, m9, e9', n9, f9, rfl, ii, be, hback⟩ := hen.form
      obtain ⟨A5, c5, B5, d5, rfl, ia, ib⟩ := ii.form
      replace L := (((L.step be).n ib).n ia).swap
      clear be ii ia ib hen
      have HBK := Lib.hid hback
      clear hback
      clear c00 c01 c02 c20 c21 c22
      have c00 := L.b0.c60
      have f00 := L.b0.fr 0
      have c01 := L.b0.c61
      have f01 := L.b0.fr 1
      have c02 := L.b0.c62
      have f02 := L.b0.fr 2
      have c03 := L.b0.c63
      have f03 := L.b0.fr 3
      have c04 := L.b0.c64
      have f04 := L.b0.fr 4
      have c05 := L.b0.c65
      have f05 := L.b0.fr 5
      go_wp2_with fail
      have LP := L.putI (by omega) (by first | (simp; done) | (simp; omega)) (ng m9) A5 (zl m9) c5 e9' (ng n9) B5 (zl n9) d5 f9
      have k0' := LP.b0.c60
      have k1' := LP.b0.c61
      have k2' := LP.b0.c62
      have k3' := LP.b0.c63
      have k4' := LP.b0.c64
      have k5' := LP.b0.c65
      unfold put6 at k0' k1' k2' k3' k4' k5'
      exact bodyPost_ret (v := .tuple #[.agg #[.bool (ng m9), .slice A5 (zl m9) c5, .int .i64 e9', .bool (ng n9), .slice B5 (zl n9) d5, .int .i64 f9], .int .i64 er]) (by simp [results, Tryz.results145, go_sem, k0', k1', k2', k3', k4', k5']) rfl (HBK.out _ _ _ (isI_n (LP.getN (by simp)) (LP.getN (by simp))) LP.below)

set_option maxHeartbeats 4000000 in
theorem cfrac_any (num den : Int) (w : World) (h1 : -4611686018427387904 ≤ num) (h2 : num ≤ 4611686018427387904) (hd : 0 < den) (hd2 : den ≤ 4611686018427387904) :
    Calls Tryz.prog 167 #[.int .i64 num, .int .i64 den] w (RetQ w (Rat.divInt num den)) := by
  have z1 := len_le2 (x := num.natAbs) (by omega)
  have z2 := len_le2 (x := den.natAbs) (by omega)
  have z3 := len_le2 (x := 1) (by omega)
  have g1 := fun W => pof_any num W (by omega) (by omega)
  have g2 := fun W => pof_any den W (by omega) (by omega)
  have g3 := fun v u W h k => pdiv_any num 1 den 1 v u W h k (show zl num ≤ 1000000 from Nat.le_trans z1 (by omega)) (by omega) (show zl den ≤ 1000000 from Nat.le_trans z2 (by omega)) (by omega) (by omega) (by omega)
  rw [show Rat.divInt (num * ((1 : Nat) : Int)) (((1 : Nat) : Int) * den) = Rat.divInt num den by rw [Int.natCast_one, Int.mul_one, Int.one_mul]] at g3
  unfold RetQ at g1 g2 ⊢
  simp only [Rat.num_intCast, Rat.den_intCast] at g1 g2
  generalize (Rat.divInt num den).num = a at *
  generalize (Rat.divInt num den).den = k at *
  have G1 := Lib.hid g1
  have G2 := Lib.hid g2
  have G3 := Lib.hid g3
  clear g1 g2 g3 z1 z2 z3
  go_enter Tryz.func167, Tryz.ntmps167
  have L := ((Lq.mk0 w).varQ (w.heap.size) (by simp) false none none 0 0 0 0)
  have c00 := L.b0.c30
  have f00 := L.b0.fr 0
  have c01 := L.b0.c31
  have f01 := L.b0.fr 1
  have c02 := L.b0.c32
  have f02 := L.b0.fr 2
  (try go_wp2_with fail)
  refine (G1.out _).mono ?_
  rintro e w1 ⟨vv, rfl, iq, be⟩
  clear c00 f00 c01 f01 c02 f02
  obtain ⟨A1, c1, B1, d1, rfl, _, ia, ib⟩ := iq.form
  replace L := ((L.step be).n ib).n ia
  clear be iq ia ib
  have c00 := L.b0.c30
  have f00 := L.b0.fr 0
  have c01 := L.b0.c31
  have f01 := L.b0.fr 1
  have c02 := L.b0.c32
  have f02 := L.b0.fr 2
  (try go_wp2_with fail)
  refine (G2.out _).mono ?_
  rintro e w2 ⟨vv, rfl, iq, be⟩
  clear c00 f00 c01 f01 c02 f02
  obtain ⟨A2, c2, B2, d2, rfl, _, ia, ib⟩ := iq.form
  replace L := ((L.step be).n ib).n ia
  clear be iq ia ib
  have c00 := L.b0.c30
  have f00 := L.b0.fr 0
  have c01 := L.b0.c31
  have f01 := L.b0.fr 1
  have c02 := L.b0.c32
  have f02 := L.b0.fr 2
  (try go_wp2_with fail)
  refine (G3.out _ _ _ ⟨.slice A1 (zl num) c1, .slice B1 (len 1) d1, rfl, L.getN (by simp), L.getN (by simp)⟩ ⟨.slice A2 (zl den) c2, .slice B2 (len 1) d2, rfl, L.getN (by simp), L.getN (by simp)⟩).mono ?_
  rintro e w3 ⟨vv, rfl, iq, be⟩
  clear c00 f00 c01 f01 c02 f02
  obtain ⟨A3, c3, B3, d3, rfl, _, ia, ib⟩ := iq.form
  replace L := ((L.step be).n ib).n ia
  clear be iq ia ib
  have hl9 := L.b0.lt
  have c00 := L.b0.c30
  have f00 := L.b0.fr 0
  have c01 := L.b0.c31
  have f01 := L.b0.fr 1
  have c02 := L.b0.c32
  have f02 := L.b0.fr 2
  have LN := L.varQ w3.heap.size rfl (ng a) A3 B3 (zl a) c3 (len k) d3
  have n0 := LN.b0.c30
  have n1 := LN.b0.c31
  have n2 := LN.b0.c32
  go_wp2_with fail
  clear c00 f00 c01 f01 c02 f02
  have LP0 := L.putQ (by omega) (by simp) (ng a) A3 B3 (zl a) c3 (len k) d3
  have LP := LP0.varQ _ rfl (ng a) A3 B3 (zl a) c3 (len k) d3
  have k0 := LP.tl.b0.c30
  have k1 := LP.tl.b0.c31
  have k2 := LP.tl.b0.c32
  unfold put3 at k0 k1 k2
  exact bodyPost_ret (v := .agg #[.bool (ng a), .slice A3 (zl a) c3, .slice B3 (len k) d3]) (by simp [results, Tryz.results167, go_sem, k0, k1, k2]) rfl ⟨_, rfl, ⟨_, _, rfl, LP.getN (by simp), LP.getN (by simp)⟩, LP.below⟩
set_option maxHeartbeats 4000000 in
theorem ctang_any (n sg : Int) (j : Nat) (w : World) (hn : 2 ≤ n) (hn2 : n ≤ 10000) (hs : sg = 1 ∨ sg = -1) (hj : j ≤ 1000) :
    Calls Tryz.prog 123 #[.int .i64 n, .int .i64 (j : Int), .int .i64 sg] w (RetQ w (Rat.divInt (tnP n sg j).1 (tnP n sg j).2)) := by
  have hnn : n * n ≤ 10000 * 10000 := Int.mul_le_mul hn2 hn2 (by omega) (by omega)
  have hnn2 : 2 * 2 ≤ n * n := Int.mul_le_mul hn hn (by omega) (by omega)
  obtain ⟨q, hq⟩ : ∃ q, n * n = q := ⟨_, rfl⟩
  obtain ⟨b, hb⟩ : ∃ b, q + sg = b := ⟨_, rfl⟩
  have w1 : IntKind.i64.wrap (n * n) = q := by rw [IntKind.wrap_i64]; omega
  have w2 : IntKind.i64.wrap (q + sg) = b := by rw [IntKind.wrap_i64]; omega
  have w3 : IntKind.i64.wrap (sg * 2) = sg * 2 := by rw [IntKind.wrap_i64]; omega
  obtain ⟨u, hu⟩ : ∃ u, sg * 2 * (j : Int) = u := ⟨_, rfl⟩
  have hub : -2000 ≤ u ∧ u ≤ 2000 := by rcases hs with rfl | rfl <;> omega
  have w4 : IntKind.i64.wrap (sg * 2 * (j : Int)) = u := by rw [IntKind.wrap_i64]; omega
  have w5 : IntKind.i64.wrap (2 * (j : Int)) = 2 * (j : Int) := by rw [IntKind.wrap_i64]; omega
  obtain ⟨m, hm⟩ : ∃ m : Int, 2 * (j : Int) + 1 = m := ⟨_, rfl⟩
  have w6 : IntKind.i64.wrap (2 * (j : Int) + 1) = m := by rw [IntKind.wrap_i64]; omega
  rw [hq] at hnn hnn2
  have hmb : m * b ≤ 2001 * 100000001 := Int.mul_le_mul (by omega) (by omega) (by omega) (by omega)
  have hmb2 : 1 * 3 ≤ m * b := Int.mul_le_mul (by omega) (by omega) (by omega) (by omega)
  obtain ⟨y, hy⟩ : ∃ y, m * b = y := ⟨_, rfl⟩
  rw [hy] at hmb hmb2
  have w7 : IntKind.i64.wrap (m * b) = y := by rw [IntKind.wrap_i64]; omega
  unfold tnP
  by_cases hj0 : j = 0
  · subst hj0
    rw [if_pos rfl]
    simp only
    rw [hq, hb]
    have g1 := fun W => cfrac_any n b W (by omega) (by omega) (by omega) (by omega)
    unfold RetQ at g1 ⊢
    generalize (Rat.divInt n b).num = a at *
    generalize (Rat.divInt n b).den = k at *
    have G1 := Lib.hid g1
    clear g1 hy hm hu hb hq hnn hnn2 hmb hmb2 w3 w4 w5 w6 w7 hub
    go_enter Tryz.func123, Tryz.ntmps123
    have L := ((Lq.mk0 w).varQ (w.heap.size) (by simp) false none none 0 0 0 0)
    have c00 := L.b0.c30
    have f00 := L.b0.fr 0
    have c01 := L.b0.c31
    have f01 := L.b0.fr 1
    have c02 := L.b0.c32
    have f02 := L.b0.fr 2
    (try go_wp2_with fail)
    refine (G1.out _).mono ?_
    rintro e w1 ⟨vv, rfl, iq, be⟩
    clear c00 f00 c01 f01 c02 f02
    obtain ⟨A9, c9, B9, d9, rfl, _, ia, ib⟩ := iq.form
    replace L := ((L.step be).n ib).n ia
    clear be iq ia ib
    have c00 := L.b0.c30
    have f00 := L.b0.fr 0
    have c01 := L.b0.c31
    have f01 := L.b0.fr 1
    have c02 := L.b0.c32
    have f02 := L.b0.fr 2
    (try go_wp2_with fail)
    have LP := L.putQ (by omega) (by first | (simp; done) | (simp; omega)) (ng (a)) A9 B9 (zl (a)) c9 (len (k)) d9
    have k0 := LP.b0.c30
    have k1 := LP.b0.c31
    have k2 := LP.b0.c32
    unfold put3 at k0 k1 k2
    exact bodyPost_ret (v := .agg #[.bool (ng (a)), .slice A9 (zl (a)) c9, .slice B9 (len (k)) d9]) (by simp [results, Tryz.results123, go_sem, k0, k1, k2]) rfl ⟨_, rfl, ⟨_, _, rfl, LP.getN (by simp), LP.getN (by simp)⟩, LP.below⟩
  · rw [if_neg hj0]
    simp only
    rw [hq, hb, hu, hm, hy]
    have q0 : ((j : Int) == 0) = false := by rw [beq_eq_false_iff_ne]; omega
    have g1 := fun W => cfrac_any u y W (by omega) (by omega) (by omega) (by omega)
    unfold RetQ at g1 ⊢
    generalize (Rat.divInt u y).num = a at *
    generalize (Rat.divInt u y).den = k at *
    have G1 := Lib.hid g1
    clear g1 hy hm hu hb hq hnn hnn2 hmb hmb2 hub
    go_enter Tryz.func123, Tryz.ntmps123
    have L := ((Lq.mk0 w).varQ (w.heap.size) (by simp) false none none 0 0 0 0)
    have c00 := L.b0.c30
    have f00 := L.b0.fr 0
    have c01 := L.b0.c31
    have f01 := L.b0.fr 1
    have c02 := L.b0.c32
    have f02 := L.b0.fr 2
    (try go_wp2_with fail)
    refine (G1.out _).mono ?_
    rintro e w1 ⟨vv, rfl, iq, be⟩
    clear c00 f00 c01 f01 c02 f02
    obtain ⟨A9, c9, B9, d9, rfl, _, ia, ib⟩ := iq.form
    replace L := ((L.step be).n ib).n ia
    clear be iq ia ib
    have c00 := L.b0.c30
    have f00 := L.b0.fr 0
    have c01 := L.b0.c31
    have f01 := L.b0.fr 1
    have c02 := L.b0.c32
    have f02 := L.b0.fr 2
    (try go_wp2_with fail)
    have LP := L.putQ (by omega) (by first | (simp; done) | (simp; omega)) (ng (a)) A9 B9 (zl (a)) c9 (len (k)) d9
    have k0 := LP.b0.c30
    have k1 := LP.b0.c31
    have k2 := LP.b0.c32
    unfold put3 at k0 k1 k2
    exact bodyPost_ret (v := .agg #[.bool (ng (a)), .slice A9 (zl (a)) c9, .slice B9 (len (k)) d9]) (by simp [results, Tryz.results123, go_sem, k0, k1, k2]) rfl ⟨_, rfl, ⟨_, _, rfl, LP.getN (by simp), LP.getN (by simp)⟩, LP.below⟩
set_option maxHeartbeats 4000000 in
theorem carea_any (n : Int) (j : Nat) (w : World) (hn : 2 ≤ n) (hn2 : n ≤ 10000) (hj : j ≤ 1000) :
    Calls Tryz.prog 69 #[.int .i64 n, .int .i64 (j : Int)] w (RetQ w (Rat.divInt (tnP n (-1) j).1 (tnP n (-1) j).2)) := by
  have g1 := fun W => ctang_any n (-1) j W hn hn2 (by omega) hj
  unfold RetQ at g1 ⊢
  generalize (Rat.divInt (tnP n (-1) j).1 (tnP n (-1) j).2).num = a at *
  generalize (Rat.divInt (tnP n (-1) j).1 (tnP n (-1) j).2).den = k at *
  have G1 := Lib.hid g1
  clear g1
  go_enter Tryz.func69, Tryz.ntmps69
  have L := ((Lq.mk0 w).varQ (w.heap.size) (by simp) false none none 0 0 0 0)
  have c00 := L.b0.c30
  have f00 := L.b0.fr 0
  have c01 := L.b0.c31
  have f01 := L.b0.fr 1
  have c02 := L.b0.c32
  have f02 := L.b0.fr 2
  (try go_wp2_with fail)
  refine (G1.out _).mono ?_
  rintro e w1 ⟨vv, rfl, iq, be⟩
  clear c00 f00 c01 f01 c02 f02
  obtain ⟨A9, c9, B9, d9, rfl, _, ia, ib⟩ := iq.form
  replace L := ((L.step be).n ib).n ia
  clear be iq ia ib
  have c00 := L.b0.c30
  have f00 := L.b0.fr 0
  have c01 := L.b0.c31
  have f01 := L.b0.fr 1
  have c02 := L.b0.c32
  have f02 := L.b0.fr 2
  (try go_wp2_with fail)
  have LP := L.putQ (by omega) (by first | (simp; done) | (simp; omega)) (ng (a)) A9 B9 (zl (a)) c9 (len (k)) d9
  have k0 := LP.b0.c30
  have k1 := LP.b0.c31
  have k2 := LP.b0.c32
  unfold put3 at k0 k1 k2
  exact bodyPost_ret (v := .agg #[.bool (ng (a)), .slice A9 (zl (a)) c9, .slice B9 (len (k)) d9]) (by simp [results, Tryz.results69, go_sem, k0, k1, k2]) rfl ⟨_, rfl, ⟨_, _, rfl, LP.getN (by simp), LP.getN (by simp)⟩, LP.below⟩
def okW (p : Int) : Bool := decide (0 ≤ p) && decide (p ≤ 4224)
set_option maxHeartbeats 1000000 in
theorem cperm_any (p : Int) (w : World) :
    Calls Tryz.prog 121 #[.int .i64 p] w (fun e w' => e = .returned (.bool (okW p)) ∧ w = w') := by
  unfold okW
  by_cases q1 : 0 ≤ p
  · have b1 : decide (0 ≤ p) = true := decide_eq_true q1
    rw [b1, Bool.true_and]
    go_enter Tryz.func121, Tryz.ntmps121
    go_wp2_with fail
    go_ret
    exact ⟨rfl, rfl⟩
  · have b1 : decide (0 ≤ p) = false := decide_eq_false q1
    rw [b1, Bool.false_and]
    go_enter Tryz.func121, Tryz.ntmps121
    go_wp2_with fail
    go_ret
    exact ⟨rfl, rfl⟩


end Go.Proofs.YtmlddkiccjpoeaaGreatDoor
