/- The program's arith: enclosure, over dyadics and over fractions. -/
import Derived.Test.YthfabjpbdgieoaaGreatDoorBaseZZ
import Derived.Test.YthfabjpbdgieoaaGreatDoorBaseXZ
import Derived.Test.YthfabjpbdgieoaaGreatDoorBaseU
import Derived.Deep.RegionHeld3
import Derived.Deep.DrawnRows
namespace Go.Proofs.YthfabjpbdgieoaaGreatDoor
open Go.RowKit
set_option linter.unusedVariables false
set_option linter.unusedSimpArgs false
set_option maxRecDepth 100000
attribute [local go_sem ↓] Go.wp_at_zero Go.wp_at_succ

set_option maxHeartbeats 16000000 in
theorem aenclR_any (a : Int) (d : Nat) (a2 : Int) (q : Nat) (k : Int) (vx vy : Value) (w : World) (hx : IsP w vx a d) (hy : IsP w vy a2 q) (la : zl a ≤ 800) (ld : len d ≤ 800) (hd : 0 < d) (lb : zl a2 ≤ 800) (lq : len q ≤ 800) (hq : 0 < q) (hw : workB k = true) (hT : Tab w) :
    Calls Tryz.prog 152 #[vx, vy, .int .i64 k, .func (.func 153) #[] #[], .func (.func 154) #[] #[]] w (RetEn w (Rat.divInt a (d : Int)) (Rat.divInt a2 (q : Int)) k) := by
  obtain ⟨wp, wk1, wk2⟩ := work_perm hw
  obtain ⟨A, c, B, i, rfl, _, _, _⟩ := hx.form
  obtain ⟨A', c', B', i', rfl, _, _, _⟩ := hy.form
  have L0 := ((Lq.mk0 w).q hy).q hx
  have y4 := zl_neg a2
  have y1 := zl_cut a d hd k
  have y2 := zl_cut (-a2) q hq k
  rw [← Rat.neg_divInt] at y2
  have f1 := fun v W h (hW : Below w.heap.size w W) => gfloorR_any a d k v W h (by omega) (by omega) hd (by omega) (by omega) (hT.mono hW)
  have f2 := fun v W h (hW : Below w.heap.size w W) => gceilR_any a2 q k v W h (by omega) (by omega) hq (by omega) (by omega) (hT.mono hW)
  obtain ⟨lo, hlo⟩ : ∃ lo, Rat.divInt a (d : Int) = lo := ⟨_, rfl⟩
  obtain ⟨hi, hhi⟩ : ∃ hi, Rat.divInt a2 (q : Int) = hi := ⟨_, rfl⟩
  rw [hlo] at f1 y1 ⊢
  rw [hhi] at f2 y2 ⊢
  have y3 := zl_neg (cutQ (-hi) k)
  have y5 := zl_mk (cutQ lo k) (-k)
  have y6 := zl_mk (-(cutQ (-hi) k)) (-k)
  rw [(g_yes wp (cutQ lo k)).1, (g_yes wp (cutQ lo k)).2.1, (g_yes wp (cutQ lo k)).2.2] at f1
  rw [(g_yes wp (-(cutQ (-hi) k))).1, (g_yes wp (-(cutQ (-hi) k))).2.1, (g_yes wp (-(cutQ (-hi) k))).2.2] at f2
  have hsm := Lib.hid (fun (q1 : mkR (cutQ lo k) (-k) = 0) (q2 : mkR (-(cutQ (-hi) k)) (-k) = 0) v W h => (show Calls Tryz.prog 44 #[v] W (RetB W (enB lo hi k)) from asmall_any (enM lo k) (enE lo k) (upM hi k) (upE hi k) v W h (by unfold enM; omega) (by unfold upM; omega) (by have := dv_bound (mk_ok q1); unfold enE; omega) (by have := dv_bound (mk_ok q2); unfold upE; omega) (mk_ok q1) (mk_ok q2)))
  have HRT := Lib.hid (show RetEn w lo hi k = if mkR (cutQ lo k) (-k) = 0 ∧ mkR (-(cutQ (-hi) k)) (-k) = 0 ∧ enB lo hi k = true then RetIE w (enM lo k) (enE lo k) (upM hi k) (upE hi k) 0 else RetIE w 0 0 0 0 3 from by unfold RetEn; rw [if_pos hw])
  unfold enM enE upM upE at hsm HRT
  have H1 := Lib.hid f1
  have H2 := Lib.hid f2
  clear f1 f2 hlo hhi y1 y2 y3 y4 y5 y6 wp hx hy la ld hd lb lq hq hw hT wk1 wk2
  generalize mkR (cutQ lo k) (-k) = R1 at *
  generalize mkR (-(cutQ (-hi) k)) (-k) = R2 at *
  generalize mkM (cutQ lo k) (-k) = M at *
  generalize mkE (cutQ lo k) (-k) = E at *
  generalize mkM (-(cutQ (-hi) k)) (-k) = N at *
  generalize mkE (-(cutQ (-hi) k)) (-k) = G at *
  generalize enB lo hi k = b at *
  cases hr1 : decide (R1 = 0)
  · replace hr1 := of_decide_eq_false hr1
    have e1 : (R1 != 0) = true := by simpa using hr1
    have e2 : (R1 == 0) = false := by simpa using hr1
    clear hsm
    go_enter Tryz.func152, Tryz.ntmps152
    go_wp2_with fail
    have L := (((L0.varQ (w.heap.size) (by simp) (ng a) A B (zl a) c (len d) i).varQ (w.heap.size + 1) (by simp) (ng a2) A' B' (zl a2) c' (len q) i').varI (w.heap.size + 2) (by simp) false none 0 0 0 false none 0 0 0)
    obtain ⟨gr, hgr⟩ : ∃ gr, w.heap.size + 1 + 1 = gr := ⟨_, rfl⟩
    have hgr2 : w.heap.size + 2 = gr := hgr
    rw [hgr2] at L
    rw [hgr]
    have hgw : w.heap.size + 1 < gr := by omega
    clear hgr hgr2
    have cel20 := L.tl.tl.b0.c30
    have cel21 := L.tl.tl.b0.c31
    have cel22 := L.tl.tl.b0.c32
    go_wp2_with fail
    refine (H1.out _ _ (L.getQ (v := .agg #[.bool (ng a), .slice A (zl a) c, .slice B (len d) i]) (a := a) (d := d) (by simp)) L.below).mono ?_
    rintro e w1 ⟨vv, rfl, id, be⟩
    clear cel20 cel21 cel22
    obtain ⟨A8, c8, rfl, _, in9⟩ := id.form
    replace L := (L.step be).n in9
    clear be id in9
    have hlg8 := L.b0.lt
    replace L := L.varD w1.heap.size rfl (ng M) A8 (zl M) c8 E
    have cel20 := L.tl.tl.b0.c30
    have cel21 := L.tl.tl.b0.c31
    have cel22 := L.tl.tl.b0.c32
    go_wp2_with fail
    obtain ⟨g8, hg⟩ : ∃ g, w1.heap.size = g := ⟨_, rfl⟩
    rw [hg] at L hlg8 ⊢
    clear hg
    refine (H2.out _ _ (L.getQ (v := .agg #[.bool (ng a2), .slice A' (zl a2) c', .slice B' (len q) i']) (a := a2) (d := q) (by simp)) L.below).mono ?_
    rintro e w2 ⟨vv, rfl, id, be⟩
    clear cel20 cel21 cel22
    obtain ⟨A9, c9, rfl, _, in9⟩ := id.form
    replace L := (L.step be).n in9
    clear be id in9
    have hl9 := L.b0.lt
    replace L := L.varD w2.heap.size rfl (ng N) A9 (zl N) c9 G
    have cel00 := L.b0.c30
    have cel01 := L.b0.c31
    have cel02 := L.b0.c32
    have cel10 := L.tl.b0.c30
    have cel11 := L.tl.b0.c31
    have cel12 := L.tl.b0.c32
    replace L := L.varI (w2.heap.size + 1) (by simp) (ng M) A8 (zl M) c8 E (ng N) A9 (zl N) c9 G
    have cem00 := L.b0.c60
    have cem01 := L.b0.c61
    have cem02 := L.b0.c62
    have cem03 := L.b0.c63
    have cem04 := L.b0.c64
    have cem05 := L.b0.c65
    have R := L.pick [(gr, 28, #[.bool false, .slice none 0 0, .int .i64 0, .bool false, .slice none 0 0, .int .i64 0])] (by simp)
    have r0 := R.b0.c60
    have s0 := R.b0.fr 0
    have r1 := R.b0.c61
    have s1 := R.b0.fr 1
    have r2 := R.b0.c62
    have s2 := R.b0.fr 2
    have r3 := R.b0.c63
    have s3 := R.b0.fr 3
    have r4 := R.b0.c64
    have s4 := R.b0.fr 4
    have r5 := R.b0.c65
    have s5 := R.b0.fr 5
    go_wp2_with fail
    have LP := R.putI (by omega) (by simp) false none 0 0 0 false none 0 0 0
    have k0' := LP.b0.c60
    have k1' := LP.b0.c61
    have k2' := LP.b0.c62
    have k3' := LP.b0.c63
    have k4' := LP.b0.c64
    have k5' := LP.b0.c65
    unfold put6 at k0' k1' k2' k3' k4' k5'
    exact bodyPost_ret (v := .tuple #[.agg #[.bool false, .slice none 0 0, .int .i64 0, .bool false, .slice none 0 0, .int .i64 0], .int .i64 3]) (by simp [results, Tryz.results152, go_sem, k0', k1', k2', k3', k4', k5']) rfl (by rw [HRT.out, if_neg (fun h => hr1 h.1)]; exact ⟨_, rfl, isI_zero _, LP.below⟩)
  · obtain rfl := of_decide_eq_true hr1
    have HR1 := Lib.hid (rfl : (0 : Int) = 0)
    clear hr1
    cases hr2 : decide (R2 = 0)
    · replace hr2 := of_decide_eq_false hr2
      have e1 : (R2 != 0) = true := by simpa using hr2
      have e2 : (R2 == 0) = false := by simpa using hr2
      clear hsm
      go_enter Tryz.func152, Tryz.ntmps152
      go_wp2_with fail
      have L := (((L0.varQ (w.heap.size) (by simp) (ng a) A B (zl a) c (len d) i).varQ (w.heap.size + 1) (by simp) (ng a2) A' B' (zl a2) c' (len q) i').varI (w.heap.size + 2) (by simp) false none 0 0 0 false none 0 0 0)
      obtain ⟨gr, hgr⟩ : ∃ gr, w.heap.size + 1 + 1 = gr := ⟨_, rfl⟩
      have hgr2 : w.heap.size + 2 = gr := hgr
      rw [hgr2] at L
      rw [hgr]
      have hgw : w.heap.size + 1 < gr := by omega
      clear hgr hgr2
      have cel20 := L.tl.tl.b0.c30
      have cel21 := L.tl.tl.b0.c31
      have cel22 := L.tl.tl.b0.c32
      go_wp2_with fail
      refine (H1.out _ _ (L.getQ (v := .agg #[.bool (ng a), .slice A (zl a) c, .slice B (len d) i]) (a := a) (d := d) (by simp)) L.below).mono ?_
      rintro e w1 ⟨vv, rfl, id, be⟩
      clear cel20 cel21 cel22
      obtain ⟨A8, c8, rfl, _, in9⟩ := id.form
      replace L := (L.step be).n in9
      clear be id in9
      have hlg8 := L.b0.lt
      replace L := L.varD w1.heap.size rfl (ng M) A8 (zl M) c8 E
      have cel20 := L.tl.tl.b0.c30
      have cel21 := L.tl.tl.b0.c31
      have cel22 := L.tl.tl.b0.c32
      go_wp2_with fail
      obtain ⟨g8, hg⟩ : ∃ g, w1.heap.size = g := ⟨_, rfl⟩
      rw [hg] at L hlg8 ⊢
      clear hg
      refine (H2.out _ _ (L.getQ (v := .agg #[.bool (ng a2), .slice A' (zl a2) c', .slice B' (len q) i']) (a := a2) (d := q) (by simp)) L.below).mono ?_
      rintro e w2 ⟨vv, rfl, id, be⟩
      clear cel20 cel21 cel22
      obtain ⟨A9, c9, rfl, _, in9⟩ := id.form
      replace L := (L.step be).n in9
      clear be id in9
      have hl9 := L.b0.lt
      replace L := L.varD w2.heap.size rfl (ng N) A9 (zl N) c9 G
      have cel00 := L.b0.c30
      have cel01 := L.b0.c31
      have cel02 := L.b0.c32
      have cel10 := L.tl.b0.c30
      have cel11 := L.tl.b0.c31
      have cel12 := L.tl.b0.c32
      replace L := L.varI (w2.heap.size + 1) (by simp) (ng M) A8 (zl M) c8 E (ng N) A9 (zl N) c9 G
      have cem00 := L.b0.c60
      have cem01 := L.b0.c61
      have cem02 := L.b0.c62
      have cem03 := L.b0.c63
      have cem04 := L.b0.c64
      have cem05 := L.b0.c65
      have R := L.pick [(gr, 28, #[.bool false, .slice none 0 0, .int .i64 0, .bool false, .slice none 0 0, .int .i64 0])] (by simp)
      have r0 := R.b0.c60
      have s0 := R.b0.fr 0
      have r1 := R.b0.c61
      have s1 := R.b0.fr 1
      have r2 := R.b0.c62
      have s2 := R.b0.fr 2
      have r3 := R.b0.c63
      have s3 := R.b0.fr 3
      have r4 := R.b0.c64
      have s4 := R.b0.fr 4
      have r5 := R.b0.c65
      have s5 := R.b0.fr 5
      go_wp2_with fail
      have LP := R.putI (by omega) (by simp) false none 0 0 0 false none 0 0 0
      have k0' := LP.b0.c60
      have k1' := LP.b0.c61
      have k2' := LP.b0.c62
      have k3' := LP.b0.c63
      have k4' := LP.b0.c64
      have k5' := LP.b0.c65
      unfold put6 at k0' k1' k2' k3' k4' k5'
      exact bodyPost_ret (v := .tuple #[.agg #[.bool false, .slice none 0 0, .int .i64 0, .bool false, .slice none 0 0, .int .i64 0], .int .i64 3]) (by simp [results, Tryz.results152, go_sem, k0', k1', k2', k3', k4', k5']) rfl (by rw [HRT.out, if_neg (fun h => hr2 h.2.1)]; exact ⟨_, rfl, isI_zero _, LP.below⟩)
    · obtain rfl := of_decide_eq_true hr2
      have HR2 := Lib.hid (rfl : (0 : Int) = 0)
      have HS := Lib.hid (hsm.out rfl rfl)
      clear hr2 hsm
      go_enter Tryz.func152, Tryz.ntmps152
      go_wp2_with fail
      have L := (((L0.varQ (w.heap.size) (by simp) (ng a) A B (zl a) c (len d) i).varQ (w.heap.size + 1) (by simp) (ng a2) A' B' (zl a2) c' (len q) i').varI (w.heap.size + 2) (by simp) false none 0 0 0 false none 0 0 0)
      obtain ⟨gr, hgr⟩ : ∃ gr, w.heap.size + 1 + 1 = gr := ⟨_, rfl⟩
      have hgr2 : w.heap.size + 2 = gr := hgr
      rw [hgr2] at L
      rw [hgr]
      have hgw : w.heap.size + 1 < gr := by omega
      clear hgr hgr2
      have cel20 := L.tl.tl.b0.c30
      have cel21 := L.tl.tl.b0.c31
      have cel22 := L.tl.tl.b0.c32
      go_wp2_with fail
      refine (H1.out _ _ (L.getQ (v := .agg #[.bool (ng a), .slice A (zl a) c, .slice B (len d) i]) (a := a) (d := d) (by simp)) L.below).mono ?_
      rintro e w1 ⟨vv, rfl, id, be⟩
      clear cel20 cel21 cel22
      obtain ⟨A8, c8, rfl, _, in9⟩ := id.form
      replace L := (L.step be).n in9
      clear be id in9
      have hlg8 := L.b0.lt
      replace L := L.varD w1.heap.size rfl (ng M) A8 (zl M) c8 E
      have cel20 := L.tl.tl.b0.c30
      have cel21 := L.tl.tl.b0.c31
      have cel22 := L.tl.tl.b0.c32
      go_wp2_with fail
      obtain ⟨g8, hg⟩ : ∃ g, w1.heap.size = g := ⟨_, rfl⟩
      rw [hg] at L hlg8 ⊢
      clear hg
      refine (H2.out _ _ (L.getQ (v := .agg #[.bool (ng a2), .slice A' (zl a2) c', .slice B' (len q) i']) (a := a2) (d := q) (by simp)) L.below).mono ?_
      rintro e w2 ⟨vv, rfl, id, be⟩
      clear cel20 cel21 cel22
      obtain ⟨A9, c9, rfl, _, in9⟩ := id.form
      replace L := (L.step be).n in9
      clear be id in9
      have hl9 := L.b0.lt
      replace L := L.varD w2.heap.size rfl (ng N) A9 (zl N) c9 G
      have cel00 := L.b0.c30
      have cel01 := L.b0.c31
      have cel02 := L.b0.c32
      have cel10 := L.tl.b0.c30
      have cel11 := L.tl.b0.c31
      have cel12 := L.tl.b0.c32
      replace L := L.varI (w2.heap.size + 1) (by simp) (ng M) A8 (zl M) c8 E (ng N) A9 (zl N) c9 G
      have cem00 := L.b0.c60
      have cem01 := L.b0.c61
      have cem02 := L.b0.c62
      have cem03 := L.b0.c63
      have cem04 := L.b0.c64
      have cem05 := L.b0.c65
      go_wp2_with fail
      refine (HS.out _ _ (isI_n (s := .slice A8 (zl M) c8) (t := .slice A9 (zl N) c9) (L.getN (by simp)) (L.getN (by simp)))).mono ?_
      rintro e w3 ⟨rfl, be⟩
      clear cem00 cem01 cem02 cem03 cem04 cem05 cel00 cel01 cel02 cel10 cel11 cel12
      replace L := L.step be
      clear be
      cases b
      · skip
        have cel00 := L.b0.c60
        have cel01 := L.b0.c61
        have cel02 := L.b0.c62
        have cel03 := L.b0.c63
        have cel04 := L.b0.c64
        have cel05 := L.b0.c65
        have R := L.pick [(gr, 28, #[.bool false, .slice none 0 0, .int .i64 0, .bool false, .slice none 0 0, .int .i64 0])] (by simp)
        have r0 := R.b0.c60
        have s0 := R.b0.fr 0
        have r1 := R.b0.c61
        have s1 := R.b0.fr 1
        have r2 := R.b0.c62
        have s2 := R.b0.fr 2
        have r3 := R.b0.c63
        have s3 := R.b0.fr 3
        have r4 := R.b0.c64
        have s4 := R.b0.fr 4
        have r5 := R.b0.c65
        have s5 := R.b0.fr 5
        go_wp2_with fail
        have LP := R.putI (by omega) (by simp) false none 0 0 0 false none 0 0 0
        have k0' := LP.b0.c60
        have k1' := LP.b0.c61
        have k2' := LP.b0.c62
        have k3' := LP.b0.c63
        have k4' := LP.b0.c64
        have k5' := LP.b0.c65
        unfold put6 at k0' k1' k2' k3' k4' k5'
        exact bodyPost_ret (v := .tuple #[.agg #[.bool false, .slice none 0 0, .int .i64 0, .bool false, .slice none 0 0, .int .i64 0], .int .i64 3]) (by simp [results, Tryz.results152, go_sem, k0', k1', k2', k3', k4', k5']) rfl (by rw [HRT.out, if_neg (fun h => (by cases h.2.2))]; exact ⟨_, rfl, isI_zero _, LP.below⟩)
      · skip
        have cel00 := L.b0.c60
        have cel01 := L.b0.c61
        have cel02 := L.b0.c62
        have cel03 := L.b0.c63
        have cel04 := L.b0.c64
        have cel05 := L.b0.c65
        have R := L.pick [(gr, 28, #[.bool false, .slice none 0 0, .int .i64 0, .bool false, .slice none 0 0, .int .i64 0])] (by simp)
        have r0 := R.b0.c60
        have s0 := R.b0.fr 0
        have r1 := R.b0.c61
        have s1 := R.b0.fr 1
        have r2 := R.b0.c62
        have s2 := R.b0.fr 2
        have r3 := R.b0.c63
        have s3 := R.b0.fr 3
        have r4 := R.b0.c64
        have s4 := R.b0.fr 4
        have r5 := R.b0.c65
        have s5 := R.b0.fr 5
        go_wp2_with fail
        have LP := R.putI (by omega) (by simp) (ng M) A8 (zl M) c8 E (ng N) A9 (zl N) c9 G
        have k0' := LP.b0.c60
        have k1' := LP.b0.c61
        have k2' := LP.b0.c62
        have k3' := LP.b0.c63
        have k4' := LP.b0.c64
        have k5' := LP.b0.c65
        unfold put6 at k0' k1' k2' k3' k4' k5'
        exact bodyPost_ret (v := .tuple #[.agg #[.bool (ng M), .slice A8 (zl M) c8, .int .i64 E, .bool (ng N), .slice A9 (zl N) c9, .int .i64 G], .int .i64 0]) (by simp [results, Tryz.results152, go_sem, k0', k1', k2', k3', k4', k5']) rfl (by rw [HRT.out, if_pos ⟨HR1.out, HR2.out, by first | trivial | rfl⟩]; exact ⟨_, rfl, isI_n (LP.getN (by simp)) (LP.getN (by simp)), LP.below⟩)

end Go.Proofs.YthfabjpbdgieoaaGreatDoor
