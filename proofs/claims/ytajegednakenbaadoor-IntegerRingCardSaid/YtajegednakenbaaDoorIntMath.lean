/- Mathematics of integers: a sign and an absolute value; floors. -/
import Derived.Test.YtajegednakenbaaDoorIntA
namespace Go.Proofs.YtajegednakenbaaDoor
open Go.RowKit
set_option linter.unusedVariables false
set_option linter.unusedSimpArgs false

theorem add_same {x y : Int} (h : ng x = ng y) : sg (ng x) (x.natAbs + y.natAbs) = x + y := by
  unfold sg ng at *
  by_cases h1 : x < 0 <;> by_cases h2 : y < 0 <;> simp [h1, h2] at h ⊢ <;> omega
theorem add_diff {x y : Int} (h : ng x ≠ ng y) (hl : y.natAbs ≤ x.natAbs) : sg (ng x) (x.natAbs - y.natAbs) = x + y := by
  unfold sg ng at *
  by_cases h1 : x < 0 <;> by_cases h2 : y < 0 <;> simp [h1, h2] at h ⊢ <;> omega
theorem neg_sg (x : Int) : sg (!ng x) x.natAbs = -x := by
  unfold sg ng
  by_cases h1 : x < 0 <;> simp [h1] <;> omega
theorem sg_eq (b : Bool) (n : Nat) : sg b n = (if b then -1 else 1) * (n : Int) := by
  unfold sg
  cases b <;> simp
theorem sg_parts (z : Int) : z = (if ng z then -1 else 1) * (z.natAbs : Int) := by rw [← sg_eq, sg_self]
theorem mul_sg (x y : Int) : sg (ng x != ng y) (x.natAbs * y.natAbs) = x * y := by
  rw [← Int.natAbs_mul]
  have h := sg_self (x * y)
  by_cases hz : x * y = 0
  · rw [hz]; cases (ng x != ng y) <;> rfl
  · have hx : x ≠ 0 := fun e => hz (by rw [e, Int.zero_mul])
    have hy : y ≠ 0 := fun e => hz (by rw [e, Int.mul_zero])
    have e : ng (x * y) = (ng x != ng y) := by
      unfold ng
      rcases Int.lt_or_gt_of_ne hx with h1 | h1 <;> rcases Int.lt_or_gt_of_ne hy with h2 | h2
      · have := Int.mul_pos_of_neg_of_neg h1 h2
        simp [h1, h2]; omega
      · have := Int.mul_neg_of_neg_of_pos h1 h2
        have h3 : ¬ y < 0 := by omega
        simp [h1, h3, this]
      · have := Int.mul_neg_of_pos_of_neg h1 h2
        have h3 : ¬ x < 0 := by omega
        simp [h2, h3, this]
      · have := Int.mul_pos h1 h2
        have h3 : ¬ x < 0 := by omega
        have h4 : ¬ y < 0 := by omega
        simp [h3, h4]; omega
    rw [← e]; exact h
theorem cmp_sub (x y : Int) : cmpI (x - y) 0 = cmpI x y := by
  unfold cmpI
  split <;> split <;> (try split) <;> (try split) <;> omega
theorem cmp_neg (x y : Int) : cmpI (-x) (-y) = cmpI y x := by
  unfold cmpI
  split <;> split <;> (try split) <;> (try split) <;> omega
theorem cmp_diff {x y : Int} (h : cmpI x 0 ≠ cmpI y 0) : cmpI (cmpI x 0) (cmpI y 0) = cmpI x y := by
  rcases Int.lt_trichotomy x 0 with h1 | h1 | h1 <;> rcases Int.lt_trichotomy y 0 with h2 | h2 | h2 <;> unfold cmpI at * <;> simp_all <;> omega
theorem sign_neg {x y : Int} (hs : cmpI x 0 = cmpI y 0) (h : x < 0) : y < 0 := by
  unfold cmpI at hs
  split at hs <;> split at hs <;> (try split at hs) <;> (try split at hs) <;> omega
theorem sign_zero {x y : Int} (hs : cmpI x 0 = cmpI y 0) (h : x = 0) : y = 0 := by
  unfold cmpI at hs
  split at hs <;> split at hs <;> (try split at hs) <;> (try split at hs) <;> omega
theorem sign_pos {x y : Int} (hs : cmpI x 0 = cmpI y 0) (h : 0 < x) : 0 < y := by
  unfold cmpI at hs
  split at hs <;> split at hs <;> (try split at hs) <;> (try split at hs) <;> omega
theorem cmp_same_neg {x y : Int} (h1 : x < 0) (h2 : y < 0) : cmpI x y = -cmpI (x.natAbs : Int) (y.natAbs : Int) := by
  unfold cmpI
  split <;> split <;> (try split) <;> (try split) <;> omega
theorem cmp_same_pos {x y : Int} (h1 : 0 < x) (h2 : 0 < y) : cmpI x y = cmpI (x.natAbs : Int) (y.natAbs : Int) := by
  unfold cmpI
  split <;> split <;> (try split) <;> (try split) <;> omega

/-- The quotient rounded down, and its remainder. -/
theorem floor_unique {x y q r : Int} (h : q * y + r = x) (hr : 0 < y → 0 ≤ r ∧ r < y) (hr2 : y < 0 → y < r ∧ r ≤ 0) (hy : y ≠ 0) : x.fdiv y = q ∧ x.fmod y = r := by
  have key : x.fdiv y = q := by
    rcases Int.lt_or_gt_of_ne hy with h1 | h1
    · obtain ⟨h2, h3⟩ := hr2 h1
      rw [← Int.neg_fdiv_neg, Int.fdiv_eq_ediv_of_nonneg _ (by omega)]
      have e : -x = -r + (-y) * q := by rw [← h, Int.neg_mul, Int.mul_comm y q]; omega
      rw [e, Int.add_mul_ediv_left _ _ (by omega), Int.ediv_eq_zero_of_lt (by omega) (by omega)]; omega
    · obtain ⟨h2, h3⟩ := hr h1
      rw [Int.fdiv_eq_ediv_of_nonneg _ (by omega)]
      have e : x = r + y * q := by rw [← h, Int.mul_comm y q]; omega
      rw [e, Int.add_mul_ediv_left _ _ (by omega), Int.ediv_eq_zero_of_lt h2 h3]; omega
  refine ⟨key, ?_⟩
  have := Int.fmod_add_mul_fdiv x y
  rw [key, Int.mul_comm] at this
  omega
theorem floor_pos {x y : Int} (h : 0 < y) : x.fdiv y = x / y := Int.fdiv_eq_ediv_of_nonneg _ (by omega)
theorem floor_same {x y : Int} (hy : y ≠ 0) (h : ng x = ng y) : x.fdiv y = ((x.natAbs / y.natAbs : Nat) : Int) ∧ x.fmod y = sg (ng y) (x.natAbs % y.natAbs) := by
  have hm := Nat.mod_lt x.natAbs (show 0 < y.natAbs by omega)
  have hd := Nat.div_add_mod x.natAbs y.natAbs
  have hd' : (y.natAbs : Int) * ((x.natAbs / y.natAbs : Nat) : Int) + ((x.natAbs % y.natAbs : Nat) : Int) = (x.natAbs : Int) := by exact_mod_cast hd
  generalize x.natAbs / y.natAbs = q at *
  generalize x.natAbs % y.natAbs = r at *
  unfold sg ng at *
  by_cases h2 : y < 0
  · have h1 : x < 0 := by simpa [h2] using h
    have e : (y.natAbs : Int) = -y := by omega
    rw [e] at hd'
    rw [decide_eq_true h2, if_pos rfl]
    refine floor_unique ?_ (fun _ => by omega) (fun _ => by omega) hy
    have : -y * (q : Int) = -((q : Int) * y) := by rw [Int.neg_mul, Int.mul_comm]
    omega
  · have h1 : ¬ x < 0 := by simpa [h2] using h
    have e : (y.natAbs : Int) = y := by omega
    rw [e, Int.mul_comm] at hd'
    rw [decide_eq_false h2, if_neg (by simp)]
    exact floor_unique (by omega) (fun _ => by omega) (fun _ => by omega) hy
theorem floor_exact {x y : Int} (hy : y ≠ 0) (h : ng x ≠ ng y) (hr : x.natAbs % y.natAbs = 0) : x.fdiv y = sg true (x.natAbs / y.natAbs) ∧ x.fmod y = 0 := by
  have hd := Nat.div_add_mod x.natAbs y.natAbs
  rw [hr] at hd
  have hd' : (y.natAbs : Int) * ((x.natAbs / y.natAbs : Nat) : Int) = (x.natAbs : Int) := by exact_mod_cast hd
  generalize x.natAbs / y.natAbs = q at *
  unfold sg ng at *
  rw [if_pos rfl]
  by_cases h2 : y < 0
  · have h1 : ¬ x < 0 := by simpa [h2] using h
    have e : (y.natAbs : Int) = -y := by omega
    rw [e] at hd'
    refine floor_unique ?_ (fun _ => by omega) (fun _ => by omega) hy
    have : -y * (q : Int) = -((q : Int) * y) := by rw [Int.neg_mul, Int.mul_comm]
    have : -(q : Int) * y = -((q : Int) * y) := Int.neg_mul _ _
    omega
  · have h1 : x < 0 := by simpa [h2] using h
    have e : (y.natAbs : Int) = y := by omega
    rw [e, Int.mul_comm] at hd'
    refine floor_unique ?_ (fun _ => by omega) (fun _ => by omega) hy
    have : -(q : Int) * y = -((q : Int) * y) := Int.neg_mul _ _
    omega
theorem floor_down {x y : Int} (hy : y ≠ 0) (h : ng x ≠ ng y) (hr : 0 < x.natAbs % y.natAbs) : x.fdiv y = sg true (x.natAbs / y.natAbs + 1) ∧ x.fmod y = sg (ng y) (y.natAbs - x.natAbs % y.natAbs) := by
  have hm := Nat.mod_lt x.natAbs (show 0 < y.natAbs by omega)
  have hd := Nat.div_add_mod x.natAbs y.natAbs
  have hd' : (y.natAbs : Int) * ((x.natAbs / y.natAbs : Nat) : Int) + ((x.natAbs % y.natAbs : Nat) : Int) = (x.natAbs : Int) := by exact_mod_cast hd
  generalize x.natAbs / y.natAbs = q at *
  generalize x.natAbs % y.natAbs = r at *
  unfold sg ng at *
  rw [if_pos rfl]
  have e3 : -((q + 1 : Nat) : Int) * y = -((q : Int) * y) - y := by
    rw [Int.neg_mul, Int.natCast_add, Int.add_mul]; simp; omega
  by_cases h2 : y < 0
  · have h1 : ¬ x < 0 := by simpa [h2] using h
    have e : (y.natAbs : Int) = -y := by omega
    rw [e] at hd'
    rw [decide_eq_true h2, if_pos rfl]
    refine floor_unique ?_ (fun _ => by omega) (fun _ => by omega) hy
    have : -y * (q : Int) = -((q : Int) * y) := by rw [Int.neg_mul, Int.mul_comm]
    omega
  · have h1 : x < 0 := by simpa [h2] using h
    have e : (y.natAbs : Int) = y := by omega
    rw [e, Int.mul_comm] at hd'
    rw [decide_eq_false h2, if_neg (by simp)]
    refine floor_unique ?_ (fun _ => by omega) (fun _ => by omega) hy
    omega
/-- What the law of division asks. -/
theorem floor_law (x : Int) {y : Int} (hy : y ≠ 0) : x.fdiv y * y + x.fmod y = x ∧ (x.fmod y).natAbs < y.natAbs ∧ (x.fmod y = 0 ∨ x.fmod y ≠ 0 ∧ ng (x.fmod y) = ng y) := by
  have h0 := Int.fmod_add_mul_fdiv x y
  rw [Int.mul_comm] at h0
  refine ⟨by omega, ?_⟩
  by_cases h : ng x = ng y
  · rw [(floor_same hy h).2]
    have hm := Nat.mod_lt x.natAbs (show 0 < y.natAbs by omega)
    generalize x.natAbs % y.natAbs = r at *
    refine ⟨by rw [sg_abs]; exact hm, ?_⟩
    rcases Nat.eq_zero_or_pos r with rfl | hr
    · exact .inl (by cases ng y <;> rfl)
    · refine .inr ⟨fun e => ?_, by rw [sg_ng, decide_eq_true hr, Bool.and_true]⟩
      have := congrArg Int.natAbs e
      rw [sg_abs] at this
      simp at this; omega
  · rcases Nat.eq_zero_or_pos (x.natAbs % y.natAbs) with hz | hz
    · rw [(floor_exact hy h hz).2]
      exact ⟨by simp; omega, .inl rfl⟩
    · rw [(floor_down hy h hz).2]
      have hm := Nat.mod_lt x.natAbs (show 0 < y.natAbs by omega)
      generalize x.natAbs % y.natAbs = r at *
      refine ⟨by rw [sg_abs]; omega, .inr ⟨fun e => ?_, by rw [sg_ng, decide_eq_true (show 0 < y.natAbs - r by omega), Bool.and_true]⟩⟩
      have := congrArg Int.natAbs e
      rw [sg_abs] at this
      simp at this; omega

theorem shl_sg (x : Int) (k : Nat) : sg (ng x) (x.natAbs * 2 ^ k) = x * 2 ^ k := by
  rw [sg_eq, Int.natCast_mul, ← Int.mul_assoc, ← sg_parts, Int.natCast_pow]
  rfl
theorem shr_zero_or {x : Nat} (k : Nat) (hx : 0 < x) : tz x < k ↔ 0 < x % 2 ^ k := by
  constructor
  · intro h
    rcases Nat.eq_zero_or_pos (x % 2 ^ k) with h0 | h0
    · exfalso
      have hd : 2 ^ k ∣ x := Nat.dvd_of_mod_eq_zero h0
      have h1 := bitB_tz hx
      unfold bitB at h1
      have h2 : x / 2 ^ tz x % 2 = 1 := of_decide_eq_true h1
      clear h1
      generalize tz x = t at *
      obtain ⟨c, hc⟩ := hd
      have e : 2 ^ k = 2 ^ t * (2 * 2 ^ (k - t - 1)) := by
        rw [← Nat.pow_succ', ← Nat.pow_add]; congr 1; omega
      rw [hc, e, Nat.mul_assoc, Nat.mul_div_cancel_left _ (Nat.pow_pos (by omega)), Nat.mul_assoc, Nat.mul_mod_right] at h2
      omega
    · exact h0
  · intro h
    rcases Nat.lt_or_ge (tz x) k with h1 | h1
    · exact h1
    · exfalso
      obtain ⟨m, hm⟩ := tz_form hx
      generalize tz x = t at *
      have e : 2 ^ t = 2 ^ k * 2 ^ (t - k) := by rw [← Nat.pow_add]; congr 1; omega
      rw [hm, e, Nat.mul_assoc, Nat.mul_mod_right] at h
      omega
theorem shr_floor {x : Int} (k : Nat) : x / 2 ^ k = if ng x && decide (0 < x.natAbs % 2 ^ k) then sg (ng x) (x.natAbs / 2 ^ k + 1) else sg (ng x) (x.natAbs / 2 ^ k) := by
  have hp : (0 : Int) < 2 ^ k := by exact_mod_cast Nat.pow_pos (n := k) (show 0 < 2 by omega)
  have ea : ((2 : Int) ^ k).natAbs = 2 ^ k := by
    have : ((2 : Int) ^ k) = ((2 ^ k : Nat) : Int) := by rw [Int.natCast_pow]; rfl
    rw [this, Int.natAbs_natCast]
  have hnp : ng ((2 : Int) ^ k) = false := ng_no (by omega)
  rw [← floor_pos hp]
  by_cases h : x < 0
  · have hx : ng x = true := ng_yes h
    have hne : ng x ≠ ng ((2 : Int) ^ k) := by rw [hx, hnp]; simp
    rw [hx]
    rcases Nat.eq_zero_or_pos (x.natAbs % 2 ^ k) with hz | hz
    · rw [(floor_exact (by omega) hne (by rw [ea]; exact hz)).1, ea, hz]; rfl
    · rw [(floor_down (by omega) hne (by rw [ea]; exact hz)).1, ea, decide_eq_true hz]; rfl
  · have hx : ng x = false := ng_no (by omega)
    rw [(floor_same (by omega) (by rw [hx, hnp])).1, ea, hx]; rfl

theorem abs_le {z : Int} {k : Nat} (h : zl z ≤ k) : len z.natAbs ≤ k := h
theorem Lz.drew {w0 w : World} {ns : List (Value × Nat)} {zs : List (Value × Int)} {bs : List (Nat × Bool × Value)} (h : Lz w0 w ns zs bs) : Lz w0 w.drew ns zs bs := h.step ((Below.refl _ _).drew)
theorem Lz.swap {w0 w : World} {ns : List (Value × Nat)} {zs : List (Value × Int)} {bs : List (Nat × Bool × Value)} {p q : Nat × Bool × Value} (h : Lz w0 w ns zs (p :: q :: bs)) : Lz w0 w ns zs (q :: p :: bs) :=
  ⟨h.below, h.ns, h.zs, fun r hr => h.bs r (by simp only [List.mem_cons] at hr ⊢; rcases hr with h | h | h <;> simp [h])⟩

end Go.Proofs.YtajegednakenbaaDoor
