/- What the walks of RadicalBounds, RadicalPowers, RadicalPoints, RadicalProducts lean on. -/
import Derived.Test.YthfabjpbdgieoaaGreatDoorRdT
import Derived.Test.YthfabjpbdgieoaaGreatDoorBaseW
import Derived.Test.YthfabjpbdgieoaaGreatDoorBaseE
import Derived.Test.YthfabjpbdgieoaaGreatDoorRefGrB
import Derived.Test.YthfabjpbdgieoaaGreatDoorBaseX
namespace Go.Proofs.YthfabjpbdgieoaaGreatDoor
open Go.RowKit
set_option linter.unusedVariables false
set_option linter.unusedSimpArgs false
set_option maxRecDepth 100000
attribute [local go_sem ↓] Go.wp_at_zero Go.wp_at_succ

theorem work_small {k : Int} (h1 : 0 ≤ k) (h2 : k ≤ 200) : workB k = true := by
  unfold workB
  rw [decide_eq_true h1, decide_eq_true (show k ≤ 4096 by omega)]
  rfl
theorem zl_abs (m : Int) : zl ((m.natAbs : Nat) : Int) = zl m := by
  unfold zl
  rw [Int.natAbs_natCast]
theorem Lq.abs {w0 w : World} {ns : List (Value × Nat)} {zs : List (Value × Int)} {qs : List (Value × Int × Nat)} {bs : List (Nat × TypeId × Array Value)} {g : Nat} {T : TypeId} {m e : Int} {A : Option Addr} {c : Nat} (h : Lq w0 w ns zs qs ((g, T, #[.bool false, .slice A (zl m) c, .int .i64 e]) :: bs)) : Lq w0 w ns zs qs ((g, T, #[.bool (ng ((m.natAbs : Nat) : Int)), .slice A (zl ((m.natAbs : Nat) : Int)) c, .int .i64 e]) :: bs) := by
  rw [ng_nat, zl_abs]
  exact h
theorem dq_ng (m e : Int) : dq m e < 0 ↔ m < 0 := by
  have := dq_lt_iff m 0 e
  rwa [dq_zero] at this
theorem mk_nn {R j : Int} (h : mkR R j = 0) (h0 : 0 ≤ R) : 0 ≤ mkM R j := by
  refine Int.not_lt.1 fun hc => ?_
  have h1 := (dq_ng (mkM R j) (mkE R j)).2 hc
  rw [dq_mk h] at h1
  exact Rat.not_le.2 h1 (dq_nn j h0)
theorem on_mk2 {C k : Int} (hr : mkR C (-k) = 0) (hk : 0 ≤ k ∧ k ≤ 4096) : onB (mkM C (-k)) (mkE C (-k)) k = true := by
  unfold onB
  rw [show permB k = true from by unfold permB; rw [decide_eq_true (show -2048 ≤ k by omega), decide_eq_true (show k ≤ 8192 by omega)]; rfl, Bool.true_and]
  by_cases h0 : C = 0
  · have h1 : mkM C (-k) = 0 := by subst h0; unfold mkM; rw [if_pos hr, oddM_zero]
    rw [h1, decide_eq_true rfl, Bool.true_or]
  · have h2 : mkE C (-k) = oddE C (-k) := by unfold mkE; rw [if_neg h0, if_pos hr]
    rw [h2]
    unfold oddE
    rw [decide_eq_true (show -k ≤ -k + (tz C.natAbs : Int) by omega), Bool.or_true]
theorem mk_square {M E : Int} (lM : zl M ≤ 490) (bE : -4096 ≤ E ∧ E ≤ 15700) : mkR (M * M) (E + E) = 0 ∧ zl (mkM (M * M) (E + E)) ≤ 1000 ∧ (-70000 ≤ mkE (M * M) (E + E) ∧ mkE (M * M) (E + E) ≤ 70000) ∧ dq (mkM (M * M) (E + E)) (mkE (M * M) (E + E)) = dq M E * dq M E ∧ Dv (mkM (M * M) (E + E)) (mkE (M * M) (E + E)) := by
  have b1 := zl_mul M M
  have b2 := mk_fits4 (m := M * M) (e := E + E) (by omega) (by omega) (by omega)
  have b3 := zl_mk (M * M) (E + E)
  have b4 := mkE_le (m := M * M) (e := E + E) (K := 31400) (by omega) (by omega)
  exact ⟨b2, by omega, by omega, by rw [dq_mk b2, dq_mul], mk_ok b2⟩
set_option maxHeartbeats 2000000 in
/-- What RadicalBounds asks of a dyadic, all at once. -/
theorem bnd_ok {m e k : Int} (lm : zl m ≤ 12) (he : -100 ≤ e ∧ e ≤ 1000) (hm : 0 ≤ m) (hv : Dv m e) (h0 : 0 ≤ k) (h1 : k ≤ 200) : ∃ (N G N2 G2 U H S F S2 F2 c1 c2 : Int) (sx : Bool),
    (∀ v W, IsD W v m e → Tab W → Calls Tryz.prog 15 #[v, .int .i64 k] W (RetDE W N G 0)) ∧
    (∀ v W, IsD W v m e → Tab W → Calls Tryz.prog 16 #[v, .int .i64 k] W (RetDE W U H 0)) ∧
    (∀ W, Calls Tryz.prog 23 #[.int .i64 k] W (RetDE W 1 (-k) 0)) ∧
    (∀ v u W, IsD W v N G → IsD W u 1 (-k) → Calls Tryz.prog 24 #[v, u] W (RetDE W N2 G2 0)) ∧
    (∀ v u W, IsD W v N G → IsD W u N G → Calls Tryz.prog 22 #[v, u] W (RetDE W S F 0)) ∧
    (∀ v u W, IsD W v N2 G2 → IsD W u N2 G2 → Calls Tryz.prog 22 #[v, u] W (RetDE W S2 F2 0)) ∧
    ng N = false ∧ (∀ v W, IsD W v N G → Calls Tryz.prog 25 #[v, .int .i64 k] W (RetB W true)) ∧
    (∀ v u W, IsD W v S F → IsD W u m e → Calls Tryz.prog 11 #[v, u] W (RetI W c1)) ∧ ¬ 0 < c1 ∧
    (∀ v u W, IsD W v S2 F2 → IsD W u m e → Calls Tryz.prog 11 #[v, u] W (RetI W c2)) ∧ ¬ c2 ≤ 0 ∧
    (∀ v u W, IsD W v S F → IsD W u m e → Calls Tryz.prog 20 #[v, u] W (RetB W sx)) ∧
    ((sx = true ∧ U = N ∧ H = G) ∨ (sx = false ∧ U = N2 ∧ H = G2)) := by
  have hk : workB k = true := work_small h0 h1
  obtain ⟨_, _, z1, z2, _, r1, r2⟩ := sq_size (m := m) (e := e) (k := k) (by omega) (by omega) hm hk
  have q0 := dq_nn e hm
  have lo := sq_lo q0 k
  have hi := sq_hi q0 k
  have rn := sqR_nn (dq m e) k
  have hU : sqU (dq m e) k = if dq (sqR (dq m e) k) (-k) * dq (sqR (dq m e) k) (-k) = dq m e then sqR (dq m e) k else sqR (dq m e) k + 1 := rfl
  have p1 := fun v W h hT => dsqrtf_any m e k v W h (by omega) (by omega) hv (by omega) (by omega) hT
  have p2 := fun v W h hT => dsqrtc_any m e k v W h (by omega) (by omega) hv (by omega) (by omega) hT
  unfold RetSf at p1
  unfold RetSc at p2
  simp only [hk, if_true, if_neg (Int.not_lt.2 hm)] at p1 p2
  obtain ⟨R, hR⟩ : ∃ z, sqR (dq m e) k = z := ⟨_, rfl⟩
  rw [hR] at p1 lo hi rn hU z1 r1
  have zR1 : zl (R + 1) ≤ 486 := by
    have := zl_add R 1
    have h4 : zl 1 ≤ 1 := len_le1 (by decide)
    omega
  have r3 : mkR (R + 1) (-k) = 0 := mk_fits2 (by omega) (by omega) (by omega)
  obtain ⟨n1, n2⟩ := mk_next h0 r1
  obtain ⟨u1, u2, u3⟩ := mk_unit h0 (show k ≤ 4096 by omega)
  have e1 := mkE_in R k h0
  have e2 := mkE_in (R + 1) k h0
  have y1 := zl_mk R (-k)
  have y2 := zl_mk (R + 1) (-k)
  have d1 := dq_mk r1
  have d2 := dq_mk r3
  have nn := mk_nn r1 rn
  have on := on_mk2 r1 ⟨h0, by omega⟩
  obtain ⟨a1, a2, a3, a4, a5⟩ := mk_square (M := mkM R (-k)) (E := mkE R (-k)) (by omega) (by omega)
  obtain ⟨b1, b2, b3, b4, b5⟩ := mk_square (M := mkM (R + 1) (-k)) (E := mkE (R + 1) (-k)) (by omega) (by omega)
  rw [d1] at a4
  rw [d2] at b4
  have z11 : zl 1 ≤ 1 := len_le1 (by decide)
  have gu := fun W => runit9_any k W (by omega) (by omega)
  have pk : permB k = true := by unfold permB; rw [decide_eq_true (show -2048 ≤ k by omega), decide_eq_true (show k ≤ 8192 by omega)]; rfl
  rw [(g_yes pk _).1, (g_yes pk _).2.1, (g_yes pk _).2.2, u1, u2, u3] at gu
  have ga := fun v u W h1 h2 => radd8_any (mkM R (-k)) (mkE R (-k)) 1 (-k) v u W h1 h2 (by omega) (by omega) (by omega) (by omega)
  rw [n1, n2, r3] at ga
  have gm := fun v u W h1 h2 => rmul8_any (mkM R (-k)) (mkE R (-k)) (mkM R (-k)) (mkE R (-k)) v u W h1 h2 (by omega) (by omega) (by omega) (by omega)
  rw [a1] at gm
  have gm2 := fun v u W h1 h2 => rmul8_any (mkM (R + 1) (-k)) (mkE (R + 1) (-k)) (mkM (R + 1) (-k)) (mkE (R + 1) (-k)) v u W h1 h2 (by omega) (by omega) (by omega) (by omega)
  rw [b1] at gm2
  have go := fun v W h => ron9_any (mkM R (-k)) (mkE R (-k)) k v W h (by omega) (by omega)
  rw [on] at go
  have c1 := fun v u W h1 h2 => rcmp8_any (mkM (mkM R (-k) * mkM R (-k)) (mkE R (-k) + mkE R (-k))) (mkE (mkM R (-k) * mkM R (-k)) (mkE R (-k) + mkE R (-k))) m e v u W h1 h2 (by omega) (by omega) (by omega) (by omega)
  have c2 := fun v u W h1 h2 => rcmp8_any (mkM (mkM (R + 1) (-k) * mkM (R + 1) (-k)) (mkE (R + 1) (-k) + mkE (R + 1) (-k))) (mkE (mkM (R + 1) (-k) * mkM (R + 1) (-k)) (mkE (R + 1) (-k) + mkE (R + 1) (-k))) m e v u W h1 h2 (by omega) (by omega) (by omega) (by omega)
  have ss := fun v u W h1 h2 => same8_any (mkM (mkM R (-k) * mkM R (-k)) (mkE R (-k) + mkE R (-k))) (mkE (mkM R (-k) * mkM R (-k)) (mkE R (-k) + mkE R (-k))) m e v u W h1 h2
  have k1 : ¬ 0 < dcm (mkM (mkM R (-k) * mkM R (-k)) (mkE R (-k) + mkE R (-k))) (mkE (mkM R (-k) * mkM R (-k)) (mkE R (-k) + mkE R (-k))) m e := by
    have := (dcm_le (mkM (mkM R (-k) * mkM R (-k)) (mkE R (-k) + mkE R (-k))) (mkE (mkM R (-k) * mkM R (-k)) (mkE R (-k) + mkE R (-k))) m e).2 (by rw [a4]; exact lo)
    omega
  have k2 : ¬ dcm (mkM (mkM (R + 1) (-k) * mkM (R + 1) (-k)) (mkE (R + 1) (-k) + mkE (R + 1) (-k))) (mkE (mkM (R + 1) (-k) * mkM (R + 1) (-k)) (mkE (R + 1) (-k) + mkE (R + 1) (-k))) m e ≤ 0 := fun h => by
    have := (dcm_le _ _ _ _).1 h
    rw [b4] at this
    exact Rat.not_le.2 hi this
  refine ⟨_, _, _, _, mkM (sqU (dq m e) k) (-k), mkE (sqU (dq m e) k) (-k), _, _, _, _, _, _, _, p1, p2, gu, ga, gm, gm2, ng_no (by omega), go, c1, k1, c2, k2, ss, ?_⟩
  rw [hU]
  by_cases hx : dq R (-k) * dq R (-k) = dq m e
  · rw [if_pos hx]
    obtain ⟨x1, x2⟩ := dv_uniq a5 hv (a4.trans hx)
    exact Or.inl ⟨by rw [x1, x2]; simp, rfl, rfl⟩
  · rw [if_neg hx]
    refine Or.inr ⟨?_, rfl, rfl⟩
    rw [Bool.and_eq_false_iff, decide_eq_false_iff_not, decide_eq_false_iff_not]
    by_cases hy : mkE (mkM R (-k) * mkM R (-k)) (mkE R (-k) + mkE R (-k)) = e
    · refine Or.inr fun hz => hx ?_
      rw [hy, hz] at a4
      exact a4.symm
    · exact Or.inl hy
/-- The parts of a moderate dyadic. -/
theorem pb_gen {M E : Int} {i : Nat} (hv : Dv M E) (hb : Bd (dq M E) i) (hE : -64 ≤ E) : zl M + (E.natAbs / 32 + 1) ≤ i / 32 + 6 ∧ E ≤ (i : Int) := by
  rcases hv with ⟨rfl, rfl⟩ | ⟨hm, _⟩
  · rw [zl_zero]; omega
  · obtain ⟨h1, h2⟩ := hb
    rcases Int.lt_or_le E 0 with h0 | h0
    · obtain ⟨t, ht⟩ : ∃ t : Nat, E = -(t : Int) := ⟨(-E).toNat, by omega⟩
      subst ht
      have := bd_parts (C := M) (k := (t : Int)) ⟨h1, h2⟩ (by omega)
      omega
    · have e1 : dq 1 (i : Int) = dq ((2 ^ (i + E.natAbs) : Nat) : Int) (-(E.natAbs : Int)) := by rw [dq_shl1]; congr 1; omega
      obtain ⟨t, rfl⟩ : ∃ t : Nat, E = (t : Int) := ⟨E.toNat, by omega⟩
      have e2 : dq M (t : Int) = dq (M * 2 ^ t) 0 := by rw [dq_shl]; congr 1; omega
      have e3 : dq 1 (i : Int) = dq ((2 ^ i : Nat) : Int) 0 := by rw [dq_shl1]; congr 1; omega
      rw [e2, e3, dq_le_iff] at h2
      rw [e2, e3, ← dq_neg, dq_le_iff] at h1
      have h3 : M.natAbs * 2 ^ t ≤ 2 ^ i := by
        have : (M * 2 ^ t).natAbs = M.natAbs * 2 ^ t := by rw [Int.natAbs_mul, Int.natAbs_pow]; rfl
        omega
      have h4 : 2 ^ t ≤ 2 ^ i := Nat.le_trans (Nat.le_mul_of_pos_left _ (by omega)) h3
      have h5 : t ≤ i := (Nat.pow_le_pow_iff_right (by omega)).1 h4
      have h6 : M.natAbs ≤ 2 ^ (i - t) := by
        have h7 : 2 ^ i = 2 ^ (i - t) * 2 ^ t := by rw [← Nat.pow_add]; congr 1; omega
        rw [h7] at h3
        exact Nat.le_of_mul_le_mul_right h3 (Nat.pow_pos (by omega))
      have h8 : zl M ≤ (i - t) / 32 + 1 := Nat.le_trans (len_mono h6) (len_two (i - t))
      rw [Int.natAbs_natCast]
      omega
theorem pb_of {M E j : Int} {i : Nat} (hv : Dv M E) (hb : Bd (dq M E) i) (hE : -64 ≤ E) (hi : i ≤ 199) (hj : powB j = true) : PB M E j := by
  obtain ⟨h1, h2⟩ := pb_gen hv hb hE
  unfold powB at hj
  rw [Bool.and_eq_true, decide_eq_true_iff, decide_eq_true_iff] at hj
  refine ⟨by omega, by omega, hj, ?_⟩
  exact Nat.le_trans (Nat.mul_le_mul (show zl M + (E.natAbs / 32 + 1) ≤ 12 by omega) (show j.natAbs ≤ 64 by omega)) (by omega)
theorem pb_two {M E : Int} {i : Nat} (hv : Dv M E) (hb : Bd (dq M E) i) (hE : -64 ≤ E) (hi : i ≤ 3000) : PB M E 2 := by
  obtain ⟨h1, h2⟩ := pb_gen hv hb hE
  refine ⟨by omega, by omega, by omega, ?_⟩
  show (zl M + (E.natAbs / 32 + 1)) * 2 ≤ 780
  omega
theorem small_bd {m e n f : Int} {i : Nat} (h1 : Bd (dq m e) i) (h2 : Bd (dq n f) i) (hi : i ≤ 2047) (he : -8192 ≤ e) (hf : -8192 ≤ f) (hd : dcm m e n f ≤ 0) : smallB m e n f = true := by
  have o : ∀ {m e : Int}, -8192 ≤ e → onB m e 8192 = true := fun h => by
    unfold onB
    rw [show permB 8192 = true from by decide, Bool.true_and, decide_eq_true h, Bool.or_true]
  rw [small_iff (o he) (o hf) ((dcm_le _ _ _ _).1 hd)]
  exact ⟨bd_top h1 hi, bd_top h2 hi⟩


end Go.Proofs.YthfabjpbdgieoaaGreatDoor
