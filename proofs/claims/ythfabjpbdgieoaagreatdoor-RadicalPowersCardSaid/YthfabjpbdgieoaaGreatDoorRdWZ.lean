/- Words of layer 12: what the roots and powers return; how long their parts are. -/
import Derived.Test.YthfabjpbdgieoaaGreatDoorRdBZ
import Derived.Test.YthfabjpbdgieoaaGreatDoorRefGrB
import Derived.Test.YthfabjpbdgieoaaGreatDoorBaseI
import Derived.Test.YthfabjpbdgieoaaGreatDoorBaseJ
namespace Go.Proofs.YthfabjpbdgieoaaGreatDoor
open Go.RowKit
set_option linter.unusedVariables false
set_option linter.unusedSimpArgs false
set_option maxRecDepth 100000
attribute [local go_sem ↓] Go.wp_at_zero Go.wp_at_succ

theorem znn_any (x : Nat) (v : Value) (w : World) (h : IsN w v x) (hl : len x ≤ 1000000) : Calls Tryz.prog 51 #[.bool false, v] w (RetZ w (x : Int)) := by
  obtain ⟨A, n, c, rfl, hs⟩ := h
  have hn : len x = n := by rw [← length_dig]; exact hs.len
  have := znat_any false _ A n c w hs (by omega)
  rwa [val_dig] at this
theorem isZ_n {w : World} {s : Value} {z : Int} (h : IsN w s z.natAbs) : IsZ w (.agg #[.bool (ng z), s]) z := ⟨s, rfl, h⟩
theorem isP_nn {w : World} {s t : Value} {a : Int} {d : Nat} (h : IsN w s a.natAbs) (h2 : IsN w t d) : IsP w (.agg #[.bool (ng a), s, t]) a d := ⟨s, t, rfl, h, h2⟩
theorem Lq.name {w0 w : World} {ns : List (Value × Nat)} {zs : List (Value × Int)} {qs : List (Value × Int × Nat)} {bs : List (Nat × TypeId × Array Value)} (h : Lq w0 w ns zs qs bs) : ∃ x, w = x ∧ Lq w0 x ns zs qs bs := ⟨w, rfl, h⟩
theorem Lq.rebase {w0 w : World} {ns : List (Value × Nat)} {zs : List (Value × Int)} {qs : List (Value × Int × Nat)} {bs : List (Nat × TypeId × Array Value)} (h : Lq w0 w ns zs qs bs) : Lq w w ns zs qs bs := ⟨Below.refl _ _, h.ns, h.zs, h.qs, h.bs⟩
theorem mk_fits4 {m e : Int} (h : zl m ≤ 1000) (h1 : -60000 ≤ e) (h2 : e ≤ 33000) : mkR m e = 0 := by
  unfold mkR
  rw [if_neg (by omega)]
  by_cases h0 : m = 0
  · rw [if_pos h0]
  · rw [if_neg h0]
    have ht := tz_le8 m.natAbs (by omega)
    have e1 : zl m = len m.natAbs := rfl
    have hb : blen (oddM m).natAbs ≤ 65536 := by
      have := blen_le_len (oddM m).natAbs
      have h3 := zl_odd m
      have e2 : zl (oddM m) = len (oddM m).natAbs := rfl
      omega
    have ho : bitB (oddM m).natAbs 0 = true := by
      obtain ⟨k, hk⟩ := tz_form (x := m.natAbs) (by omega)
      have hd : m.natAbs / 2 ^ tz m.natAbs = 2 * k + 1 := by
        have := Nat.mul_div_cancel_left (2 * k + 1) (Nat.pow_pos (n := tz m.natAbs) (show 0 < 2 by omega))
        rwa [← hk] at this
      unfold bitB
      rw [oddM_abs, hd, Nat.pow_zero, Nat.div_one]
      exact decide_eq_true (by omega)
    have hf : fits8 (oddM m) (oddE m e) = true := by
      unfold fits8 oddE
      rw [decide_eq_true hb, decide_eq_true (by omega), decide_eq_true (by omega), ho]
      rfl
    rw [hf]
    rfl
theorem len_half {r a K : Nat} (h : r * r ≤ a) (ha : len a ≤ 2 * K) : len r ≤ K := by
  refine len_le ?_
  have h1 := len_le_iff.1 ha
  rw [Nat.mul_comm, Nat.pow_mul, Nat.pow_two] at h1
  rcases Nat.lt_or_ge r (W32 ^ K) with h2 | h2
  · exact h2
  · have := Nat.mul_le_mul h2 h2
    omega
/-- How long the parts of a root are. -/
theorem sq_size {m e k : Int} (lm : zl m ≤ 400) (he : -10000 ≤ e ∧ e ≤ 10000) (hm : 0 ≤ m) (hk : workB k = true) : 0 ≤ cutQ (dq m e) (2 * k) ∧ zl (cutQ (dq m e) (2 * k)) ≤ 970 ∧ zl (sqR (dq m e) k) ≤ 485 ∧ zl (sqU (dq m e) k) ≤ 486 ∧ mkR (cutQ (dq m e) (2 * k)) (-(2 * k)) = 0 ∧ mkR (sqR (dq m e) k) (-k) = 0 ∧ mkR (sqU (dq m e) k) (-k) = 0 := by
  obtain ⟨_, h0, h1⟩ := work_perm hk
  have c0 := cut_nn (dq_nn e hm) (2 * k)
  have c1 := zl_cutD m e (2 * k)
  have c2 : zl (cutQ (dq m e) (2 * k)) ≤ 970 := by omega
  have r0 := sqR_nn (dq m e) k
  have r1 : zl (sqR (dq m e) k) ≤ 485 := by
    have h := sqR_le (dq_nn e hm) k
    have h2 : (sqR (dq m e) k).natAbs * (sqR (dq m e) k).natAbs ≤ (cutQ (dq m e) (2 * k)).natAbs := by
      rw [← Int.natAbs_mul]
      have := Int.mul_nonneg r0 r0
      omega
    exact len_half h2 (by exact Nat.le_trans c2 (by omega))
  have r2 : zl (sqU (dq m e) k) ≤ 486 := by
    have h := su_le (dq m e) k
    have h2 := su_nn (dq m e) k
    have h3 := zl_add (sqR (dq m e) k) 1
    have h4 : zl 1 ≤ 1 := len_le1 (by decide)
    have h5 : zl (sqU (dq m e) k) ≤ zl (sqR (dq m e) k + 1) := len_mono (by omega)
    omega
  exact ⟨c0, c2, r1, r2, mk_fits2 (by omega) (by omega) (by omega), mk_fits2 (by omega) (by omega) (by omega), mk_fits2 (by omega) (by omega) (by omega)⟩
theorem mk_shl {C j : Int} (hj : 0 ≤ j) (h : mkR C (-j) = 0) : ∃ t : Nat, mkE C (-j) + j = (t : Int) ∧ mkM C (-j) * 2 ^ t = C ∧ t ≤ j.toNat + 32 * zl C := by
  unfold mkE mkM
  rw [if_pos h, if_pos h]
  by_cases h0 : C = 0
  · rw [if_pos h0]
    subst h0
    refine ⟨j.toNat, by omega, by rw [oddM_zero, Int.zero_mul], by omega⟩
  · rw [if_neg h0]
    have ht := tz_le8 C.natAbs (by omega)
    have e1 : zl C = len C.natAbs := rfl
    exact ⟨tz C.natAbs, by unfold oddE; omega, odd_form C, by omega⟩
theorem mk_next {r k : Int} (hk : 0 ≤ k) (h : mkR r (-k) = 0) : addS (mkM r (-k)) (mkE r (-k)) 1 (-k) = r + 1 ∧ min (mkE r (-k)) (-k) = -k := by
  obtain ⟨t, h1, h2, _⟩ := mk_shl hk h
  have e1 : min (mkE r (-k)) (-k) = -k := by omega
  refine ⟨?_, e1⟩
  unfold addS
  rw [e1, show (mkE r (-k) - -k).toNat = t from by omega, h2, show (-k - -k).toNat = 0 from by omega]
  rfl
theorem mk_unit {k : Int} (h0 : 0 ≤ k) (h1 : k ≤ 4096) : mkM 1 (-k) = 1 ∧ mkE 1 (-k) = -k ∧ mkR 1 (-k) = 0 := by
  have hz : zl 1 ≤ 1 := len_le1 (by decide)
  have h := mk_fits4 (m := 1) (e := -k) (by omega) (by omega) (by omega)
  refine ⟨?_, ?_, h⟩
  · unfold mkM
    rw [if_pos h]
    have := odd_shl (m := 1) (by decide) 0
    simpa using this
  · unfold mkE
    rw [if_neg (by decide), if_pos h]
    unfold oddE
    rw [show tz (1 : Int).natAbs = 0 from tz_two 0]
    omega
theorem dcm_zero_iff (m e n f : Int) : dcm m e n f = 0 ↔ dq m e = dq n f := by
  have h1 := dcm_le m e n f
  have h2 := dcm_ge m e n f
  constructor
  · intro h
    exact Rat.le_antisymm (h1.1 (by omega)) (h2.1 (by omega))
  · intro h
    have a := h1.2 (by rw [h]; exact Rat.le_refl)
    have b := h2.2 (by rw [h]; exact Rat.le_refl)
    omega
/-- The square of the floor, as the program takes it. -/
theorem sq_square {q : Rat} {k : Int} (hk : workB k = true) (h : mkR (sqR q k) (-k) = 0) (hz : zl (sqR q k) ≤ 485) : zl (mkM (sqR q k) (-k)) ≤ 485 ∧ (-4096 ≤ mkE (sqR q k) (-k) ∧ mkE (sqR q k) (-k) ≤ 15520) ∧ mkR (mkM (sqR q k) (-k) * mkM (sqR q k) (-k)) (mkE (sqR q k) (-k) + mkE (sqR q k) (-k)) = 0 ∧ zl (mkM (mkM (sqR q k) (-k) * mkM (sqR q k) (-k)) (mkE (sqR q k) (-k) + mkE (sqR q k) (-k))) ≤ 970 ∧ (-70000 ≤ mkE (mkM (sqR q k) (-k) * mkM (sqR q k) (-k)) (mkE (sqR q k) (-k) + mkE (sqR q k) (-k)) ∧ mkE (mkM (sqR q k) (-k) * mkM (sqR q k) (-k)) (mkE (sqR q k) (-k) + mkE (sqR q k) (-k)) ≤ 70000) ∧ dq (mkM (mkM (sqR q k) (-k) * mkM (sqR q k) (-k)) (mkE (sqR q k) (-k) + mkE (sqR q k) (-k))) (mkE (mkM (sqR q k) (-k) * mkM (sqR q k) (-k)) (mkE (sqR q k) (-k) + mkE (sqR q k) (-k))) = dq (sqR q k) (-k) * dq (sqR q k) (-k) := by
  obtain ⟨_, h0, h1⟩ := work_perm hk
  have a1 := zl_mk (sqR q k) (-k)
  have a2 := mkE_in (sqR q k) k h0
  have a3 := dq_mk h
  generalize mkM (sqR q k) (-k) = M at *
  generalize mkE (sqR q k) (-k) = E at *
  have b1 := zl_mul M M
  have b2 := mk_fits4 (m := M * M) (e := E + E) (by omega) (by omega) (by omega)
  have b3 := zl_mk (M * M) (E + E)
  have b4 := mkE_le (m := M * M) (e := E + E) (K := 31040) (by omega) (by omega)
  exact ⟨by omega, by omega, b2, by omega, by omega, by rw [dq_mk b2, dq_mul, a3]⟩
/-- What SqrtFloor, SqrtCeil, Sqrt return. -/
def RetSf (w : World) (m e k : Int) : Ending → World → Prop := if workB k then (if m < 0 then RetDE w 0 0 4 else RetDE w (mkM (sqR (dq m e) k) (-k)) (mkE (sqR (dq m e) k) (-k)) 0) else RetDE w 0 0 1
def RetSc (w : World) (m e k : Int) : Ending → World → Prop := if workB k then (if m < 0 then RetDE w 0 0 4 else RetDE w (mkM (sqU (dq m e) k) (-k)) (mkE (sqU (dq m e) k) (-k)) 0) else RetDE w 0 0 1
def smS (m e n f k : Int) : Bool := smallB (mkM (sqR (dq m e) k) (-k)) (mkE (sqR (dq m e) k) (-k)) (mkM (sqU (dq n f) k) (-k)) (mkE (sqU (dq n f) k) (-k))
def RetSr (w : World) (m e n f k : Int) : Ending → World → Prop := if workB k then (if n < 0 then RetIE w 0 0 0 0 4 else if m < 0 then RetIE w 0 0 0 0 5 else if smS m e n f k then RetIE w (mkM (sqR (dq m e) k) (-k)) (mkE (sqR (dq m e) k) (-k)) (mkM (sqU (dq n f) k) (-k)) (mkE (sqU (dq n f) k) (-k)) 0 else RetIE w 0 0 0 0 3) else RetIE w 0 0 0 0 1
theorem cmp_neg0 (m : Int) : cmpI m 0 < 0 ↔ m < 0 := by
  unfold cmpI
  (repeat' split) <;> omega
theorem RetDE.z {w w' : World} (h : Below w.heap.size w w') (er : Int) : RetDE w 0 0 er (.returned (.tuple #[.agg #[.bool false, .slice none 0 0, .int .i64 0], .int .i64 er])) w' := ⟨_, rfl, isD_zero _, h⟩
theorem RetIE.z {w w' : World} (h : Below w.heap.size w w') (er : Int) : RetIE w 0 0 0 0 er (.returned (.tuple #[.agg #[.bool false, .slice none 0 0, .int .i64 0, .bool false, .slice none 0 0, .int .i64 0], .int .i64 er])) w' := ⟨_, rfl, isI_zero _, h⟩


end Go.Proofs.YthfabjpbdgieoaaGreatDoor
