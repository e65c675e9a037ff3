/- The walk of ExponentialFar: whatever the input, the law returns true and turns nothing that was there. -/
import Derived.Test.YtnnfldkllhdhjaaGreatDoorJC3
import Derived.Test.YtnnfldkllhdhjaaGreatDoorBaseEC
import Derived.Deep.RegionHeld3
import Derived.Deep.DrawnRows
import Derived.Deep.Cut
import Derived.Deep.CutRange
namespace Go.Proofs.YtnnfldkllhdhjaaGreatDoor
open Go.RowKit
set_option linter.unusedVariables false
set_option linter.unusedSimpArgs false
set_option maxRecDepth 100000
attribute [local go_sem ↓] Go.wp_at_zero Go.wp_at_succ

theorem plainI3 (N0 N1 N2 : Int) : Plain #[.int .i64 N0, .int .i64 N1, .int .i64 N2] := fun j x => by
  match j with
  | 0 => simp
  | 1 => simp
  | 2 => simp
  | j + 3 => simp
/-- The argument of this law. -/
structure ZOk (M E : Int) : Prop where
  dv : Dv M E
  zm : zl M ≤ 60
  em : -3000 ≤ E ∧ E ≤ 3000
  hi : dq M E ≤ 200
  tp : topZ M E ≤ 11 ∨ dq M E < -4000
  sm : smallB M E M E = true
theorem ZOk.of {M E : Int} (dv : Dv M E) (zm : zl M ≤ 60) (em : -3000 ≤ E ∧ E ≤ 3000) (h : (-1500 ≤ dq M E ∧ dq M E ≤ 200) ∨ (-10000 ≤ dq M E ∧ dq M E ≤ -5000)) : ZOk M E := by
  have v11 : dq 1 11 = 2048 := by decide +kernel
  have v14 : dq 1 14 = 16384 := by decide +kernel
  have t14 : topZ M E ≤ 14 := by
    refine (top_iff (by omega)).2 ?_
    rw [v14]
    generalize dq M E = p at *
    rcases h with h | h <;> constructor <;> grind
  refine ⟨dv, zm, em, ?_, ?_, small14 zm zm (by omega) (by omega) (by rw [dcm_self]; omega) (by omega) (by omega)⟩
  · generalize dq M E = p at *
    rcases h with h | h <;> grind
  · rcases h with h | h
    · left
      refine (top_iff (by omega)).2 ?_
      rw [v11]
      generalize dq M E = p at *
      constructor <;> grind
    · right
      generalize dq M E = p at *
      grind
def FarM (c : Int) : Prop := (-1499 ≤ c ∧ c ≤ 199) ∨ (-9999 ≤ c ∧ c ≤ -5000)
theorem FarM.ab {c : Int} (h : FarM c) : AbP c 14 := by
  have e : (2 : Nat) ^ 14 = 16384 := by decide
  unfold FarM at h
  unfold AbP
  rw [e]
  omega
theorem FarM.one {c : Int} (h : FarM c) : (zl (mkM c 0) ≤ 1 ∧ (0 ≤ mkE c 0 ∧ mkE c 0 ≤ 32)) ∧ ZOk (mkM c 0) (mkE c 0) := by
  obtain ⟨a1, _, a3, _, _, a6⟩ := nf h.ab (by omega)
  have z1 : zl (mkM c 0) ≤ 1 := Nat.le_trans (zl_mk _ _) (Nat.le_trans h.ab.zl (by omega))
  have z2 := mkE_at a1 h.ab.zl
  refine ⟨⟨z1, by omega⟩, ZOk.of (mk_ok a1) (by omega) (by omega) ?_⟩
  rw [a6, dq_int]
  rcases h with ⟨h1, h2⟩ | ⟨h1, h2⟩
  · left
    have g1 := Rat.intCast_le_intCast.2 h1
    have g2 := Rat.intCast_le_intCast.2 (show c ≤ 200 by omega)
    refine ⟨Rat.le_trans ?_ g1, g2⟩
    decide
  · right
    have g1 := Rat.intCast_le_intCast.2 (show -10000 ≤ c by omega)
    have g2 := Rat.intCast_le_intCast.2 h2
    exact ⟨g1, g2⟩
theorem FarM.sub {c x f : Int} (h : FarM c) (zx : zl x ≤ 2) (hf : -20 ≤ f ∧ f ≤ 84) (h0 : 0 ≤ dq x f) (h1 : dq x f ≤ 1) :
    mkR (addS (mkM c 0) (mkE c 0) (-x) f) (min (mkE c 0) f) = 0 ∧ ZOk (mkM (addS (mkM c 0) (mkE c 0) (-x) f) (min (mkE c 0) f)) (mkE (addS (mkM c 0) (mkE c 0) (-x) f) (min (mkE c 0) f)) := by
  obtain ⟨⟨z1, z2⟩, _⟩ := h.one
  obtain ⟨a1, _, a3, _, _, a6⟩ := nf h.ab (by omega)
  have zn := zl_neg x
  have hz := zl_addS (mkM c 0) (mkE c 0) (-x) f 84 (by omega) (by omega)
  have hr : mkR (addS (mkM c 0) (mkE c 0) (-x) f) (min (mkE c 0) f) = 0 := mk_fits2 (by omega) (by omega) (by omega)
  have e1 := zl_mk (addS (mkM c 0) (mkE c 0) (-x) f) (min (mkE c 0) f)
  have e2 := mkE_at hr (k := 12) (by omega)
  refine ⟨hr, ZOk.of (mk_ok hr) (by omega) (by omega) ?_⟩
  rw [dq_mk hr, dq_add, a6, dq_int, dq_neg]
  rcases h with ⟨g1, g2⟩ | ⟨g1, g2⟩
  · left
    have k1 := Rat.intCast_le_intCast.2 g1
    have k2 := Rat.intCast_le_intCast.2 (show c ≤ 200 by omega)
    have e3 : ((-1499 : Int) : Rat) = -1499 := by decide +kernel
    have e4 : ((200 : Int) : Rat) = 200 := by decide +kernel
    rw [e3] at k1
    rw [e4] at k2
    generalize dq x f = p at *
    generalize (c : Rat) = q at *
    constructor <;> grind
  · right
    have k1 := Rat.intCast_le_intCast.2 g1
    have k2 := Rat.intCast_le_intCast.2 g2
    have e3 : ((-9999 : Int) : Rat) = -9999 := by decide +kernel
    have e4 : ((-5000 : Int) : Rat) = -5000 := by decide +kernel
    rw [e3] at k1
    rw [e4] at k2
    generalize dq x f = p at *
    generalize (c : Rat) = q at *
    constructor <;> grind

set_option maxHeartbeats 64000000 in
theorem walk_ExponentialFar (a0 : Int) (a1 : Int) (b2 : Bool) (a2 : Option Addr) (len2 cap2 : Nat) (z2 : List Nat) (f2 : Int) (w : World) (h0 : -9223372036854775808 ≤ a0 ∧ a0 ≤ 9223372036854775807) (h1 : -9223372036854775808 ≤ a1 ∧ a1 ≤ 9223372036854775807) (h2 : Sl w a2 len2 cap2 z2) (u2 : -9223372036854775808 ≤ f2) (t2 : f2 ≤ 9223372036854775807) (hT : Tab w) :
    Calls Tryz.prog 4 #[.int .i64 a0, .int .i64 a1, .agg #[.bool b2, .slice a2 len2 cap2, .int .i64 f2]] w (fun e w' => e = .returned (.bool true) ∧ Below w.heap.size w w') := by
  have HT := Lib.hid (fun W (hW : Below w.heap.size w W) => hT.mono hW)
  clear hT
  go_enter Tryz.func4, Tryz.ntmps4
  go_wp2_with fail
  have L := ((Lq.mk0 w).varD (w.heap.size) (by simp) b2 a2 len2 cap2 f2)
  (try go_wp2_with fail)
  refine (awake14_any _ (HT.out _ L.below)).mono ?_
  rintro e9 w1 ⟨rfl, be⟩
  replace L := L.step be
  clear be
  have c00 := L.b0.c30
  have c01 := L.b0.c31
  have c02 := L.b0.c32
  (try go_wp2_with fail)
  refine (millD_any b2 z2 1 20 a2 len2 cap2 f2 _ (h2.mono L.below) (by omega) (by omega) u2 t2).mono ?_
  rintro e9 w2 ⟨vx, ok, x, f, rfl, id, zx, hf1, hf2, hdv, be⟩
  clear c00 c01 c02
  obtain ⟨A, c, rfl, _, in9⟩ := id.form
  replace L := (L.step be).n in9
  clear be id in9
  have hlt0 := L.b0.lt
  replace L := L.varD w2.heap.size rfl (ng x) A (zl x) c f
  cases ok
  · go_wp2_with fail
    go_ret
    exact ⟨rfl, L.below⟩
  have dv := hdv rfl
  clear hdv
  obtain ⟨k, hk⟩ : ∃ r : Nat, a1 % 40 = (r : Int) := ⟨(a1 % 40).toNat, by omega⟩
  obtain ⟨r1, hr1⟩ : ∃ r : Nat, a0 % 200 = (r : Int) := ⟨(a0 % 200).toNat, by omega⟩
  obtain ⟨r2, hr2⟩ : ∃ r : Nat, a0 % 1500 = (r : Int) := ⟨(a0 % 1500).toNat, by omega⟩
  obtain ⟨r3, hr3⟩ : ∃ r : Nat, a0 % 5000 = (r : Int) := ⟨(a0 % 5000).toNat, by omega⟩
  have o1 := fun W => mod_any a1 40 W (by omega) (by omega) h1.1 h1.2
  have o2 := fun W => mod_any a0 200 W (by omega) (by omega) h0.1 h0.2
  have o3 := fun W => mod_any a0 1500 W (by omega) (by omega) h0.1 h0.2
  have o4 := fun W => mod_any a0 5000 W (by omega) (by omega) h0.1 h0.2
  rw [hk] at o1
  rw [hr1] at o2
  rw [hr2] at o3
  rw [hr3] at o4
  have bk : k < 40 := by omega
  have MO1 := Lib.hid o1
  have MO2 := Lib.hid o2
  have MO3 := Lib.hid o3
  have MO4 := Lib.hid o4
  obtain ⟨s2, hs2⟩ : ∃ z, -(r2 : Int) = z := ⟨_, rfl⟩
  obtain ⟨s3, hs3⟩ : ∃ z, -5000 - (r3 : Int) = z := ⟨_, rfl⟩
  have wq1 : IntKind.i64.wrap (-(r2 : Int)) = s2 := by rw [IntKind.wrap_i64]; omega
  have wq2 : IntKind.i64.wrap (-5000 - (r3 : Int)) = s3 := by rw [IntKind.wrap_i64]; omega
  have HFM := Lib.hid (show FarM (r1 : Int) ∧ FarM s2 ∧ FarM s3 from ⟨Or.inl (by omega), Or.inl (by omega), Or.inr (by omega)⟩)
  clear o1 o2 o3 o4 hk hr1 hr2 hr3 hs2 hs3
  (try go_wp2_with fail)
  refine (MO1.out _).mono ?_
  rintro e9 w' ⟨rfl, rfl⟩
  (try go_wp2_with fail)
  refine (MO2.out _).mono ?_
  rintro e9 w' ⟨rfl, rfl⟩
  (try go_wp2_with fail)
  refine (MO3.out _).mono ?_
  rintro e9 w' ⟨rfl, rfl⟩
  (try go_wp2_with fail)
  refine (MO4.out _).mono ?_
  rintro e9 w' ⟨rfl, rfl⟩
  replace L := L.var (w2.heap.size + 1) (by simp) 3 #[.int .i64 (r1 : Int), .int .i64 s2, .int .i64 s3] (plainI3 _ _ _)
  go_wp2_with fail
  obtain ⟨gx, hgx⟩ : ∃ g9, w2.heap.size = g9 := ⟨_, rfl⟩
  rw [hgx] at L hlt0 ⊢
  clear hgx MO1 MO2 MO3 MO4 wq1 wq2
  obtain ⟨T, hTz⟩ : ∃ z, topZ x f = z := ⟨_, rfl⟩
  have HX := Lib.hid (And.intro dv (And.intro zx (And.intro hf1 (And.intro hf2 (And.intro bk hTz)))))
  clear dv zx hf1 hf2 bk hTz
  go_loopw [36] (fun i wr => ∃ t : Nat, i = .int .i64 (t : Int) ∧ t ≤ 3 ∧ Lq w wr [(.slice A (zl x) c, x.natAbs)] [] [] [(gx + 1, 3, #[.int .i64 (r1 : Int), .int .i64 s2, .int .i64 s3]), (gx, 26, #[.bool (ng x), .slice A (zl x) c, .int .i64 f])]) (fun i _ => 3 - (intOf i).toNat)
  case atStart => exact ⟨0, rfl, by omega, L.subx (by simp) (by simp)⟩
  case round =>
    clear L
    obtain ⟨t, rfl, ht, L⟩ := hrel
    rcases Nat.eq_or_lt_of_le ht with rfl | ht3
    · go_wp2_with fail
      go_ret
      exact ⟨rfl, L.below⟩
    · obtain ⟨r, hr, hrb⟩ : ∃ r : Int, wr.cell? ⟨gx + 1, t, none⟩ = some (.int .i64 r) ∧ FarM r := by
        rcases (show t = 0 ∨ t = 1 ∨ t = 2 by omega) with rfl | rfl | rfl
        · exact ⟨r1, L.b0.cell 0, HFM.out.1⟩
        · exact ⟨s2, L.b0.cell 1, HFM.out.2.1⟩
        · exact ⟨s3, L.b0.cell 2, HFM.out.2.2⟩
      have hlt : (t : Int) < 3 := by omega
      have ht0 : (0 : Int) ≤ (t : Int) := by omega
      obtain ⟨dv, zx, hf1, hf2, bk, hTz⟩ := HX.out
      obtain ⟨⟨q1, q2⟩, hz1⟩ := hrb.one
      have hrl : -9223372036854775808 ≤ r ∧ r ≤ 9223372036854775807 := by unfold FarM at hrb; omega
      have g1 := fun W => rof8_any r W hrl.1 hrl.2
      have g2 := fun v W h => rtop_any x f v W h (by omega) (by omega)
      rw [hTz] at g2
      have g3 := fun v u W h k9 => rsub8_any (mkM r 0) (mkE r 0) x f v u W h k9 (by omega) (by omega) (by omega) (by omega)
      have hsub : T ≤ 0 → ng x = false → mkR (addS (mkM r 0) (mkE r 0) (-x) f) (min (mkE r 0) f) = 0 ∧ ZOk (mkM (addS (mkM r 0) (mkE r 0) (-x) f) (min (mkE r 0) f)) (mkE (addS (mkM r 0) (mkE r 0) (-x) f) (min (mkE r 0) f)) := fun h9 hn => by
        refine hrb.sub zx (by omega) ?_ ?_
        · have : 0 ≤ x := by
            unfold ng at hn
            have := of_decide_eq_false hn
            omega
          have h2 := (dq_le_iff 0 x f).2 this
          rwa [dq_zero] at h2
        · refine Rat.le_trans (top_bd x f).2 (Rat.le_trans (dq_anti (b := 0) (by omega)) ?_)
          decide
      generalize mkR (addS (mkM r 0) (mkE r 0) (-x) f) (min (mkE r 0) f) = R3 at *
      generalize mkM (addS (mkM r 0) (mkE r 0) (-x) f) (min (mkE r 0) f) = M3 at *
      generalize mkE (addS (mkM r 0) (mkE r 0) (-x) f) (min (mkE r 0) f) = E3 at *
      generalize mkM r 0 = M2 at *
      generalize mkE r 0 = E2 at *
      have HZ1 := Lib.hid hz1
      have HSB := Lib.hid hsub
      have G1 := Lib.hid g1
      have G2 := Lib.hid g2
      have G3 := Lib.hid g3
      have w9 : IntKind.i64.wrap ((t : Int) + 1) = (t : Int) + 1 := by rw [IntKind.wrap_i64]; omega
      have hgx2 := L.b0.lt
      clear g1 g2 g3 hz1 hsub dv zx hf1 hf2 bk hTz q1 q2 hrl hrb
      go_wp2_with fail
      refine (G1.out _).mono ?_
      rintro e w41 ⟨v9, rfl, iz, be⟩
      obtain ⟨A1, c1, rfl, _, in9⟩ := iz.form
      replace L := (L.step be).n in9
      clear be iz in9
      have hl9 := L.b0.lt
      clear hr
      replace L := L.varD w41.heap.size rfl (ng M2) A1 (zl M2) c1 E2
      have cel20 := L.tl.tl.b0.c30
      have cel21 := L.tl.tl.b0.c31
      have cel22 := L.tl.tl.b0.c32
      go_wp2_with fail
      clear cel20 cel21 cel22
      obtain ⟨gz, hgz⟩ : ∃ g9, w41.heap.size = g9 := ⟨_, rfl⟩
      rw [hgz] at L hl9 ⊢
      clear hgz
      have hl_gz := hl9
      clear hl9
      refine (G2.out _ _ (isD_n (m := x) (e := f) (s := .slice A (zl x) c) (L.getN (by simp)))).mono ?_
      rintro e w42 ⟨rfl, be⟩
      replace L := L.step be
      clear be
      rcases Int.lt_or_le 0 T with hT9 | hT9
      · have d1 : decide (T ≤ 0) = false := decide_eq_false (by omega)
        have HZ := HZ1
        clear HSB HZ1
        have hz := HZ.out
        have z1 := hz.zm
        have b1 := hz.em
        have bk := HX.out.2.2.2.2.1
        have g1 := fun v W h (hW : Below w.heap.size w W) => xexp_yes M2 E2 M2 E2 k v W h (by omega) (by omega) (by omega) (by omega) hz.dv hz.dv hz.sm (by omega) hz.hi (HT.out W hW)
        have g2 := fun v W h => at14_any M2 E2 k v W h (by omega) (by omega) hz.tp (by omega)
        have g4 := fun a b a1 b1 vx vl vh W pa pb pl hx hl hh => near14 k a b a1 b1 a1 b1 (dq M2 E2) (dq M2 E2) vx vl vh W (by omega) Rat.le_refl pa pb pl pl hx hl hh
        obtain ⟨k16, hk16⟩ : ∃ k16, k + 16 = k16 := ⟨_, rfl⟩
        rw [hk16] at g2 g4
        have K1 := Lib.hid g1
        have K2 := Lib.hid g2
        have K4 := Lib.hid g4
        clear g1 g2 g4 hz z1 b1 bk hk16
        have cel00 := L.b0.c30
        have cel01 := L.b0.c31
        have cel02 := L.b0.c32
        (try go_wp2_with fail)
        refine (K1.out _ _ (isI_n (m := M2) (e := E2) (n := M2) (f := E2) (s := .slice A1 (zl M2) c1) (t := .slice A1 (zl M2) c1) (L.getN (by simp)) (L.getN (by simp))) L.below).mono ?_
        intro e9 w43 hr9
        obtain ⟨a, b, ea, eb, vv, rfl, ii, be⟩ := hr9.ab
        clear cel00 cel01 cel02
        obtain ⟨A2, c2, B2, d2, rfl, ia, ib⟩ := ii.form
        replace L := ((L.step be).n ib).n ia
        clear be ii ia ib hr9
        have hl9 := L.b0.lt
        have bk := HX.out.2.2.2.2.1
        have hng0 := ng_mk (k := k) ea.1 ea.2.1 (by omega) (by omega)
        have g5 := fun a1 b1 vx vl vh W pl hx hl hh => K4.out a b a1 b1 vx vl vh W ea eb pl hx hl hh
        clear ea eb K4 bk
        obtain ⟨Ma, hMa⟩ : ∃ z, mkM a (-(k : Int)) = z := ⟨_, rfl⟩
        obtain ⟨Ea, hEa⟩ : ∃ z, mkE a (-(k : Int)) = z := ⟨_, rfl⟩
        obtain ⟨Nb, hNb⟩ : ∃ z, mkM b (-(k : Int)) = z := ⟨_, rfl⟩
        obtain ⟨Fb, hFb⟩ : ∃ z, mkE b (-(k : Int)) = z := ⟨_, rfl⟩
        rw [hMa, hEa, hNb, hFb] at g5
        rw [hMa] at hng0
        rw [hMa, hNb] at L ⊢
        rw [hEa, hFb]
        have G5 := Lib.hid g5
        have HNG := Lib.hid hng0
        clear g5 hng0 hMa hEa hNb hFb
        replace L := L.varI w43.heap.size rfl (ng Ma) A2 (zl Ma) c2 Ea (ng Nb) B2 (zl Nb) d2 Fb
        have cel10 := L.tl.b0.c30
        have cel11 := L.tl.b0.c31
        have cel12 := L.tl.b0.c32
        go_wp2_with fail
        clear cel10 cel11 cel12
        obtain ⟨gy, hgy⟩ : ∃ g9, w43.heap.size = g9 := ⟨_, rfl⟩
        rw [hgy] at L hl9 ⊢
        clear hgy
        have hl_gy := hl9
        clear hl9
        refine (K2.out _ _ (isD_n (m := M2) (e := E2) (s := .slice A1 (zl M2) c1) (L.getN (by simp)))).mono ?_
        intro e9 w44 hr9
        obtain ⟨x1, y1, ex1, vv, rfl, ii, be⟩ := hr9.ab
        obtain ⟨A6, c6, B6, d6, rfl, ia, ib⟩ := ii.form
        replace L := ((L.step be).n ib).n ia
        clear be ii ia ib hr9
        have hl9 := L.b0.lt
        have g6 := fun vx vl vh W hx hl hh => G5.out x1 y1 vx vl vh W ex1 hx hl hh
        clear ex1 G5
        obtain ⟨M6, hM6⟩ : ∃ z, mkM x1 (-(k16 : Int)) = z := ⟨_, rfl⟩
        obtain ⟨E6, hE6⟩ : ∃ z, mkE x1 (-(k16 : Int)) = z := ⟨_, rfl⟩
        obtain ⟨N6, hN6⟩ : ∃ z, mkM y1 (-(k16 : Int)) = z := ⟨_, rfl⟩
        obtain ⟨F6, hF6⟩ : ∃ z, mkE y1 (-(k16 : Int)) = z := ⟨_, rfl⟩
        rw [hM6, hE6, hN6, hF6] at g6
        rw [hM6, hN6] at L ⊢
        rw [hE6, hF6]
        have G6 := Lib.hid g6
        clear g6 hM6 hE6 hN6 hF6
        replace L := L.varI w44.heap.size rfl (ng M6) A6 (zl M6) c6 E6 (ng N6) B6 (zl N6) d6 F6
        have cel00 := L.b0.c60
        have cel01 := L.b0.c61
        have cel02 := L.b0.c62
        have cel03 := L.b0.c63
        have cel04 := L.b0.c64
        have cel05 := L.b0.c65
        have cel10 := L.tl.b0.c60
        have cel11 := L.tl.b0.c61
        have cel12 := L.tl.b0.c62
        have cel13 := L.tl.b0.c63
        have cel14 := L.tl.b0.c64
        have cel15 := L.tl.b0.c65
        have hng := HNG.out
        rw [hng] at cel10
        go_wp2_with fail
        clear cel00 cel01 cel02 cel03 cel04 cel05 cel10 cel11 cel12 cel13 cel14 cel15
        obtain ⟨gt, hgt⟩ : ∃ g9, w44.heap.size = g9 := ⟨_, rfl⟩
        rw [hgt] at L hl9 ⊢
        clear hgt
        have hl_gt := hl9
        clear hl9
        refine (G6.out _ _ _ _ (isI_p (m := Ma) (e := Ea) (n := Nb) (f := Fb) (s := .slice A2 (zl Ma) c2) (t := .slice B2 (zl Nb) d2) hng (L.getN (by simp)) (L.getN (by simp))) (isI_n (m := M6) (e := E6) (n := N6) (f := F6) (s := .slice A6 (zl M6) c6) (t := .slice B6 (zl N6) d6) (L.getN (by simp)) (L.getN (by simp))) (isI_n (m := M6) (e := E6) (n := N6) (f := F6) (s := .slice A6 (zl M6) c6) (t := .slice B6 (zl N6) d6) (L.getN (by simp)) (L.getN (by simp)))).mono ?_
        rintro e w45 ⟨rfl, be⟩
        replace L := L.step be
        clear be hng
        (try go_wp2_with fail)
        go_roundw
        case rel => exact ⟨t + 1, by go_num, by omega, L.subx (by simp) (by simp)⟩
        case measure => simp [intOf]; omega
      · have d1 : decide (T ≤ 0) = true := decide_eq_true hT9
        have hnn : ng x = false ∨ ng x = true := by cases ng x <;> simp
        rcases hnn with hn | hn
        · have hs := HSB.out hT9 hn
          have G3' := G3.out
          rw [hs.1] at G3'
          have G9 := Lib.hid G3'
          have HZ := Lib.hid hs.2
          have HNX := Lib.hid hn
          clear hs G3' G3 HSB HZ1 hn
          have cel00 := L.b0.c30
          have cel01 := L.b0.c31
          have cel02 := L.b0.c32
          have cel20 := L.tl.tl.b0.c30
          have cel21 := L.tl.tl.b0.c31
          have cel22 := L.tl.tl.b0.c32
          have hnx := HNX.out
          rw [hnx] at cel20
          clear hnx
          (try go_wp2_with fail)
          refine (G9.out _ _ _ (isD_n (m := M2) (e := E2) (s := .slice A1 (zl M2) c1) (L.getN (by simp))) ⟨.slice A (zl x) c, by rw [HNX.out], L.getN (by simp)⟩).mono ?_
          rintro e w43 ⟨v9, rfl, iz, be⟩
          clear cel00 cel01 cel02 cel20 cel21 cel22
          obtain ⟨A3, c3, rfl, _, in9⟩ := iz.form
          replace L := (L.step be).n in9
          clear be iz in9
          have cel00 := L.b0.c30
          have f00 := L.b0.fr 0
          have cel01 := L.b0.c31
          have f01 := L.b0.fr 1
          have cel02 := L.b0.c32
          have f02 := L.b0.fr 2
          have P := L.putD (by omega) (by simp; omega) (ng M3) A3 (zl M3) c3 E3
          have p0 := P.b0.c30
          have p1 := P.b0.c31
          have p2 := P.b0.c32
          unfold put3 at p0 p1 p2 P
          go_wp2_with fail
          replace L := P
          clear P p0 p1 p2
          clear cel00 f00 cel01 f01 cel02 f02
          have hz := HZ.out
          have z1 := hz.zm
          have b1 := hz.em
          have bk := HX.out.2.2.2.2.1
          have g1 := fun v W h (hW : Below w.heap.size w W) => xexp_yes M3 E3 M3 E3 k v W h (by omega) (by omega) (by omega) (by omega) hz.dv hz.dv hz.sm (by omega) hz.hi (HT.out W hW)
          have g2 := fun v W h => at14_any M3 E3 k v W h (by omega) (by omega) hz.tp (by omega)
          have g4 := fun a b a1 b1 vx vl vh W pa pb pl hx hl hh => near14 k a b a1 b1 a1 b1 (dq M3 E3) (dq M3 E3) vx vl vh W (by omega) Rat.le_refl pa pb pl pl hx hl hh
          obtain ⟨k16, hk16⟩ : ∃ k16, k + 16 = k16 := ⟨_, rfl⟩
          rw [hk16] at g2 g4
          have K1 := Lib.hid g1
          have K2 := Lib.hid g2
          have K4 := Lib.hid g4
          clear g1 g2 g4 hz z1 b1 bk hk16
          have cel00 := L.b0.c30
          have cel01 := L.b0.c31
          have cel02 := L.b0.c32
          (try go_wp2_with fail)
          refine (K1.out _ _ (isI_n (m := M3) (e := E3) (n := M3) (f := E3) (s := .slice A3 (zl M3) c3) (t := .slice A3 (zl M3) c3) (L.getN (by simp)) (L.getN (by simp))) L.below).mono ?_
          intro e9 w44 hr9
          obtain ⟨a, b, ea, eb, vv, rfl, ii, be⟩ := hr9.ab
          clear cel00 cel01 cel02
          obtain ⟨A2, c2, B2, d2, rfl, ia, ib⟩ := ii.form
          replace L := ((L.step be).n ib).n ia
          clear be ii ia ib hr9
          have hl9 := L.b0.lt
          have bk := HX.out.2.2.2.2.1
          have hng0 := ng_mk (k := k) ea.1 ea.2.1 (by omega) (by omega)
          have g5 := fun a1 b1 vx vl vh W pl hx hl hh => K4.out a b a1 b1 vx vl vh W ea eb pl hx hl hh
          clear ea eb K4 bk
          obtain ⟨Ma, hMa⟩ : ∃ z, mkM a (-(k : Int)) = z := ⟨_, rfl⟩
          obtain ⟨Ea, hEa⟩ : ∃ z, mkE a (-(k : Int)) = z := ⟨_, rfl⟩
          obtain ⟨Nb, hNb⟩ : ∃ z, mkM b (-(k : Int)) = z := ⟨_, rfl⟩
          obtain ⟨Fb, hFb⟩ : ∃ z, mkE b (-(k : Int)) = z := ⟨_, rfl⟩
          rw [hMa, hEa, hNb, hFb] at g5
          rw [hMa] at hng0
          rw [hMa, hNb] at L ⊢
          rw [hEa, hFb]
          have G5 := Lib.hid g5
          have HNG := Lib.hid hng0
          clear g5 hng0 hMa hEa hNb hFb
          replace L := L.varI w44.heap.size rfl (ng Ma) A2 (zl Ma) c2 Ea (ng Nb) B2 (zl Nb) d2 Fb
          have cel10 := L.tl.b0.c30
          have cel11 := L.tl.b0.c31
          have cel12 := L.tl.b0.c32
          go_wp2_with fail
          clear cel10 cel11 cel12
          obtain ⟨gy, hgy⟩ : ∃ g9, w44.heap.size = g9 := ⟨_, rfl⟩
          rw [hgy] at L hl9 ⊢
          clear hgy
          have hl_gy := hl9
          clear hl9
          refine (K2.out _ _ (isD_n (m := M3) (e := E3) (s := .slice A3 (zl M3) c3) (L.getN (by simp)))).mono ?_
          intro e9 w45 hr9
          obtain ⟨x1, y1, ex1, vv, rfl, ii, be⟩ := hr9.ab
          obtain ⟨A6, c6, B6, d6, rfl, ia, ib⟩ := ii.form
          replace L := ((L.step be).n ib).n ia
          clear be ii ia ib hr9
          have hl9 := L.b0.lt
          have g6 := fun vx vl vh W hx hl hh => G5.out x1 y1 vx vl vh W ex1 hx hl hh
          clear ex1 G5
          obtain ⟨M6, hM6⟩ : ∃ z, mkM x1 (-(k16 : Int)) = z := ⟨_, rfl⟩
          obtain ⟨E6, hE6⟩ : ∃ z, mkE x1 (-(k16 : Int)) = z := ⟨_, rfl⟩
          obtain ⟨N6, hN6⟩ : ∃ z, mkM y1 (-(k16 : Int)) = z := ⟨_, rfl⟩
          obtain ⟨F6, hF6⟩ : ∃ z, mkE y1 (-(k16 : Int)) = z := ⟨_, rfl⟩
          rw [hM6, hE6, hN6, hF6] at g6
          rw [hM6, hN6] at L ⊢
          rw [hE6, hF6]
          have G6 := Lib.hid g6
          clear g6 hM6 hE6 hN6 hF6
          replace L := L.varI w45.heap.size rfl (ng M6) A6 (zl M6) c6 E6 (ng N6) B6 (zl N6) d6 F6
          have cel00 := L.b0.c60
          have cel01 := L.b0.c61
          have cel02 := L.b0.c62
          have cel03 := L.b0.c63
          have cel04 := L.b0.c64
          have cel05 := L.b0.c65
          have cel10 := L.tl.b0.c60
          have cel11 := L.tl.b0.c61
          have cel12 := L.tl.b0.c62
          have cel13 := L.tl.b0.c63
          have cel14 := L.tl.b0.c64
          have cel15 := L.tl.b0.c65
          have hng := HNG.out
          rw [hng] at cel10
          go_wp2_with fail
          clear cel00 cel01 cel02 cel03 cel04 cel05 cel10 cel11 cel12 cel13 cel14 cel15
          obtain ⟨gt, hgt⟩ : ∃ g9, w45.heap.size = g9 := ⟨_, rfl⟩
          rw [hgt] at L hl9 ⊢
          clear hgt
          have hl_gt := hl9
          clear hl9
          refine (G6.out _ _ _ _ (isI_p (m := Ma) (e := Ea) (n := Nb) (f := Fb) (s := .slice A2 (zl Ma) c2) (t := .slice B2 (zl Nb) d2) hng (L.getN (by simp)) (L.getN (by simp))) (isI_n (m := M6) (e := E6) (n := N6) (f := F6) (s := .slice A6 (zl M6) c6) (t := .slice B6 (zl N6) d6) (L.getN (by simp)) (L.getN (by simp))) (isI_n (m := M6) (e := E6) (n := N6) (f := F6) (s := .slice A6 (zl M6) c6) (t := .slice B6 (zl N6) d6) (L.getN (by simp)) (L.getN (by simp)))).mono ?_
          rintro e w46 ⟨rfl, be⟩
          replace L := L.step be
          clear be hng
          (try go_wp2_with fail)
          go_roundw
          case rel => exact ⟨t + 1, by go_num, by omega, L.subx (by simp) (by simp)⟩
          case measure => simp [intOf]; omega
        · have HZ := HZ1
          have HNX := Lib.hid hn
          clear HSB HZ1 hn
          have cel00 := L.b0.c30
          have cel01 := L.b0.c31
          have cel02 := L.b0.c32
          have cel20 := L.tl.tl.b0.c30
          have cel21 := L.tl.tl.b0.c31
          have cel22 := L.tl.tl.b0.c32
          have hnx := HNX.out
          rw [hnx] at cel20
          clear hnx
          (try go_wp2_with fail)
          clear cel00 cel01 cel02 cel20 cel21 cel22
          have hz := HZ.out
          have z1 := hz.zm
          have b1 := hz.em
          have bk := HX.out.2.2.2.2.1
          have g1 := fun v W h (hW : Below w.heap.size w W) => xexp_yes M2 E2 M2 E2 k v W h (by omega) (by omega) (by omega) (by omega) hz.dv hz.dv hz.sm (by omega) hz.hi (HT.out W hW)
          have g2 := fun v W h => at14_any M2 E2 k v W h (by omega) (by omega) hz.tp (by omega)
          have g4 := fun a b a1 b1 vx vl vh W pa pb pl hx hl hh => near14 k a b a1 b1 a1 b1 (dq M2 E2) (dq M2 E2) vx vl vh W (by omega) Rat.le_refl pa pb pl pl hx hl hh
          obtain ⟨k16, hk16⟩ : ∃ k16, k + 16 = k16 := ⟨_, rfl⟩
          rw [hk16] at g2 g4
          have K1 := Lib.hid g1
          have K2 := Lib.hid g2
          have K4 := Lib.hid g4
          clear g1 g2 g4 hz z1 b1 bk hk16
          have cel00 := L.b0.c30
          have cel01 := L.b0.c31
          have cel02 := L.b0.c32
          (try go_wp2_with fail)
          refine (K1.out _ _ (isI_n (m := M2) (e := E2) (n := M2) (f := E2) (s := .slice A1 (zl M2) c1) (t := .slice A1 (zl M2) c1) (L.getN (by simp)) (L.getN (by simp))) L.below).mono ?_
          intro e9 w43 hr9
          obtain ⟨a, b, ea, eb, vv, rfl, ii, be⟩ := hr9.ab
          clear cel00 cel01 cel02
          obtain ⟨A2, c2, B2, d2, rfl, ia, ib⟩ := ii.form
          replace L := ((L.step be).n ib).n ia
          clear be ii ia ib hr9
          have hl9 := L.b0.lt
          have bk := HX.out.2.2.2.2.1
          have hng0 := ng_mk (k := k) ea.1 ea.2.1 (by omega) (by omega)
          have g5 := fun a1 b1 vx vl vh W pl hx hl hh => K4.out a b a1 b1 vx vl vh W ea eb pl hx hl hh
          clear ea eb K4 bk
          obtain ⟨Ma, hMa⟩ : ∃ z, mkM a (-(k : Int)) = z := ⟨_, rfl⟩
          obtain ⟨Ea, hEa⟩ : ∃ z, mkE a (-(k : Int)) = z := ⟨_, rfl⟩
          obtain ⟨Nb, hNb⟩ : ∃ z, mkM b (-(k : Int)) = z := ⟨_, rfl⟩
          obtain ⟨Fb, hFb⟩ : ∃ z, mkE b (-(k : Int)) = z := ⟨_, rfl⟩
          rw [hMa, hEa, hNb, hFb] at g5
          rw [hMa] at hng0
          rw [hMa, hNb] at L ⊢
          rw [hEa, hFb]
          have G5 := Lib.hid g5
          have HNG := Lib.hid hng0
          clear g5 hng0 hMa hEa hNb hFb
          replace L := L.varI w43.heap.size rfl (ng Ma) A2 (zl Ma) c2 Ea (ng Nb) B2 (zl Nb) d2 Fb
          have cel10 := L.tl.b0.c30
          have cel11 := L.tl.b0.c31
          have cel12 := L.tl.b0.c32
          go_wp2_with fail
          clear cel10 cel11 cel12
          obtain ⟨gy, hgy⟩ : ∃ g9, w43.heap.size = g9 := ⟨_, rfl⟩
          rw [hgy] at L hl9 ⊢
          clear hgy
          have hl_gy := hl9
          clear hl9
          refine (K2.out _ _ (isD_n (m := M2) (e := E2) (s := .slice A1 (zl M2) c1) (L.getN (by simp)))).mono ?_
          intro e9 w44 hr9
          obtain ⟨x1, y1, ex1, vv, rfl, ii, be⟩ := hr9.ab
          obtain ⟨A6, c6, B6, d6, rfl, ia, ib⟩ := ii.form
          replace L := ((L.step be).n ib).n ia
          clear be ii ia ib hr9
          have hl9 := L.b0.lt
          have g6 := fun vx vl vh W hx hl hh => G5.out x1 y1 vx vl vh W ex1 hx hl hh
          clear ex1 G5
          obtain ⟨M6, hM6⟩ : ∃ z, mkM x1 (-(k16 : Int)) = z := ⟨_, rfl⟩
          obtain ⟨E6, hE6⟩ : ∃ z, mkE x1 (-(k16 : Int)) = z := ⟨_, rfl⟩
          obtain ⟨N6, hN6⟩ : ∃ z, mkM y1 (-(k16 : Int)) = z := ⟨_, rfl⟩
          obtain ⟨F6, hF6⟩ : ∃ z, mkE y1 (-(k16 : Int)) = z := ⟨_, rfl⟩
          rw [hM6, hE6, hN6, hF6] at g6
          rw [hM6, hN6] at L ⊢
          rw [hE6, hF6]
          have G6 := Lib.hid g6
          clear g6 hM6 hE6 hN6 hF6
          replace L := L.varI w44.heap.size rfl (ng M6) A6 (zl M6) c6 E6 (ng N6) B6 (zl N6) d6 F6
          have cel00 := L.b0.c60
          have cel01 := L.b0.c61
          have cel02 := L.b0.c62
          have cel03 := L.b0.c63
          have cel04 := L.b0.c64
          have cel05 := L.b0.c65
          have cel10 := L.tl.b0.c60
          have cel11 := L.tl.b0.c61
          have cel12 := L.tl.b0.c62
          have cel13 := L.tl.b0.c63
          have cel14 := L.tl.b0.c64
          have cel15 := L.tl.b0.c65
          have hng := HNG.out
          rw [hng] at cel10
          go_wp2_with fail
          clear cel00 cel01 cel02 cel03 cel04 cel05 cel10 cel11 cel12 cel13 cel14 cel15
          obtain ⟨gt, hgt⟩ : ∃ g9, w44.heap.size = g9 := ⟨_, rfl⟩
          rw [hgt] at L hl9 ⊢
          clear hgt
          have hl_gt := hl9
          clear hl9
          refine (G6.out _ _ _ _ (isI_p (m := Ma) (e := Ea) (n := Nb) (f := Fb) (s := .slice A2 (zl Ma) c2) (t := .slice B2 (zl Nb) d2) hng (L.getN (by simp)) (L.getN (by simp))) (isI_n (m := M6) (e := E6) (n := N6) (f := F6) (s := .slice A6 (zl M6) c6) (t := .slice B6 (zl N6) d6) (L.getN (by simp)) (L.getN (by simp))) (isI_n (m := M6) (e := E6) (n := N6) (f := F6) (s := .slice A6 (zl M6) c6) (t := .slice B6 (zl N6) d6) (L.getN (by simp)) (L.getN (by simp)))).mono ?_
          rintro e w45 ⟨rfl, be⟩
          replace L := L.step be
          clear be hng
          (try go_wp2_with fail)
          go_roundw
          case rel => exact ⟨t + 1, by go_num, by omega, L.subx (by simp) (by simp)⟩
          case measure => simp [intOf]; omega

end Go.Proofs.YtnnfldkllhdhjaaGreatDoor
