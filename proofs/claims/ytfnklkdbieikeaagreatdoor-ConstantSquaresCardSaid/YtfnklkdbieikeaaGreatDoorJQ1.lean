/- Joined: CoM, CpM, IvPC, IvPD, CpA, CpN (what the law leans on). -/
import Derived.Test.YtfnklkdbieikeaaGreatDoorBaseI
import Derived.Test.YtfnklkdbieikeaaGreatDoorBaseM
import Derived.Test.YtfnklkdbieikeaaGreatDoorBaseG
import Derived.Test.YtfnklkdbieikeaaGreatDoorGrPC
import Derived.Test.YtfnklkdbieikeaaGreatDoorBaseU
import Derived.Test.YtfnklkdbieikeaaGreatDoorBaseW
import Derived.Test.YtfnklkdbieikeaaGreatDoorBaseX
import Derived.Test.YtfnklkdbieikeaaGreatDoorBaseZ
import Derived.Deep.DrawnRows
import Derived.Deep.RegionHeld3
import Derived.Lib.SliceRun
namespace Go.Proofs.YtfnklkdbieikeaaGreatDoor
open Go.RowKit
set_option linter.unusedVariables false
set_option linter.unusedSimpArgs false
set_option maxRecDepth 100000
attribute [local go_sem ↓] Go.wp_at_zero Go.wp_at_succ

/-- The ceiling of a quotient. -/
def cdv (x n : Int) : Int := -(-x / n)
theorem cdv_le {x n k : Int} (hn : 0 < n) : cdv x n ≤ k ↔ x ≤ k * n := by
  unfold cdv
  have h : -k ≤ -x / n ↔ -k * n ≤ -x := Int.le_ediv_iff_mul_le hn
  rw [Int.neg_mul] at h
  omega
theorem le_cdv {x n : Int} (hn : 0 < n) : x ≤ cdv x n * n := (cdv_le hn).1 (Int.le_refl _)
theorem div_cdv {x y n : Int} (hn : 0 < n) (h : x ≤ y) : x / n ≤ cdv y n := by
  have h1 := Int.ediv_mul_le x (show n ≠ 0 by omega)
  have h2 := le_cdv (x := y) hn
  exact Int.le_of_mul_le_mul_right (Int.le_trans h1 (Int.le_trans h h2)) hn
def AbP (x : Int) (j : Nat) : Prop := x.natAbs ≤ 2 ^ j
theorem AbP.zl {x : Int} {j : Nat} (h : AbP x j) : zl x ≤ j / 32 + 1 := Nat.le_trans (len_mono h) (len_two j)
theorem AbP.up {x : Int} {j k : Nat} (h : AbP x j) (hk : j ≤ k) : AbP x k := Nat.le_trans h (Nat.pow_le_pow_right (by omega) hk)
theorem AbP.add {x y : Int} {j : Nat} (h1 : AbP x j) (h2 : AbP y j) : AbP (x + y) (j + 1) := by
  unfold AbP at *
  rw [Nat.pow_succ]
  omega
theorem AbP.neg {x : Int} {j : Nat} (h : AbP x j) : AbP (-x) j := by
  unfold AbP at *
  rw [Int.natAbs_neg]; exact h
theorem AbP.zero (j : Nat) : AbP 0 j := Nat.zero_le _
theorem AbP.mul {x y : Int} {j k : Nat} (h1 : AbP x j) (h2 : AbP y k) : AbP (x * y) (j + k) := by
  unfold AbP at *
  rw [Int.natAbs_mul, Nat.pow_add]
  exact Nat.mul_le_mul h1 h2
/-- A term of a series: not negative, and at most 2^f. -/
def Tm (a b : Int) (f : Nat) : Prop := 0 ≤ a ∧ a ≤ b ∧ b ≤ ((2 ^ f : Nat) : Int)
theorem Tm.abs {a b : Int} {f : Nat} (h : Tm a b f) : AbP a f ∧ AbP b f := by
  unfold Tm at h; unfold AbP
  obtain ⟨P, hP⟩ : ∃ P : Nat, 2 ^ f = P := ⟨_, rfl⟩
  rw [hP] at h ⊢
  omega
theorem Tm.up {a b : Int} {f g : Nat} (h : Tm a b f) (hg : f ≤ g) : Tm a b g := by
  have := Nat.pow_le_pow_right (n := 2) (by omega) hg
  unfold Tm at *
  obtain ⟨P, hP⟩ : ∃ P : Nat, 2 ^ f = P := ⟨_, rfl⟩
  obtain ⟨Q, hQ⟩ : ∃ P : Nat, 2 ^ g = P := ⟨_, rfl⟩
  rw [hP] at this h
  rw [hQ] at this ⊢
  omega
theorem Tm.half {a b n : Int} {f : Nat} (hn : 2 ≤ n) (h : Tm a b (f + 1)) : Tm (a / n) (cdv b n) f := by
  refine ⟨Int.ediv_nonneg h.1 (by omega), div_cdv (by omega) h.2.1, (cdv_le (by omega)).2 (Int.le_trans h.2.2 ?_)⟩
  have h0 : (0 : Int) ≤ ((2 ^ f : Nat) : Int) := Int.natCast_nonneg _
  have := Int.mul_le_mul_of_nonneg_left hn h0
  rw [Nat.pow_succ]
  omega
theorem tm_one (v : Nat) : Tm (2 ^ v) (2 ^ v) v := by
  have e : ((2 ^ v : Nat) : Int) = 2 ^ v := by simp
  have := pow2_pos v
  unfold Tm
  omega
/-- The quotients of terms: of the exponential, and of the (area) tangent. -/
def exP (n : Int) (k : Nat) : Int × Int := if k = 0 then (1, 1) else (1, (k : Int) * n)
def tnP (n sg : Int) (k : Nat) : Int × Int := if k = 0 then (n, n * n + sg) else (sg * 2 * (k : Int), (2 * (k : Int) + 1) * (n * n + sg))
/-- The next term. -/
def stP (p : Nat → Int × Int) (k : Nat) (t : Int) : Int := t * (p k).1 / (p k).2
/-- The sum of the terms; none where they do not end in time. -/
def smP (p : Nat → Int × Int) : Nat → Nat → Int → Int → Option Int
  | 0, _, _, _ => none
  | f + 1, k, t, s => if stP p k t = 0 then some s else smP p f (k + 1) (stP p k t) (s + stP p k t)
/-- What is asked of the quotients. -/
def GdP (p : Nat → Int × Int) : Prop := ∀ k, k ≤ 1000 → ((p k).1.natAbs : Int) ≤ (p k).2 ∧ 0 < (p k).2 ∧ (p k).2 ≤ 4611686018427387904
theorem st_abs {p : Nat → Int × Int} {k : Nat} {t : Int} {j : Nat} (h : GdP p) (hk : k ≤ 1000) (ht : AbP t j) : AbP (stP p k t) j := by
  obtain ⟨h1, h2, h3⟩ := h k hk
  unfold AbP stP at *
  generalize (p k).1 = a at *
  generalize (p k).2 = b at *
  have x0 : ((t * a).natAbs : Int) ≤ (t.natAbs : Int) * b := by
    rw [Int.natAbs_mul, Int.natCast_mul]
    exact Int.mul_le_mul_of_nonneg_left h1 (Int.natCast_nonneg _)
  have x1 : t * a / b ≤ (t.natAbs : Int) := Int.ediv_le_of_le_mul h2 (by omega)
  have x2 : -(t.natAbs : Int) ≤ t * a / b := by
    rw [Int.le_ediv_iff_mul_le h2, Int.neg_mul]
    omega
  omega
/-- What is known ahead of each round. -/
def SpI (p : Nat → Int × Int) (v f k : Nat) (t s S : Int) : Prop := AbP t v ∧ AbP s (v + k) ∧ f + k = 600 ∧ smP p f k t s = some S
theorem SpI.step {p : Nat → Int × Int} {v f k : Nat} {t s S : Int} (hg : GdP p) (h : SpI p v f k t s S) : ∃ g, f = g + 1 ∧ k ≤ 600 ∧ AbP (stP p k t) v ∧
    (stP p k t = 0 → S = s) ∧ (stP p k t ≠ 0 → SpI p v g (k + 1) (stP p k t) (s + stP p k t) S) := by
  obtain ⟨h1, h2, h3, h4⟩ := h
  match f with
  | 0 => cases h4
  | g + 1 =>
    have h5 := st_abs hg (show k ≤ 1000 by omega) h1
    refine ⟨g, rfl, by omega, h5, fun h0 => ?_, fun h0 => ⟨h5, h2.add (h5.up (by omega)), by omega, ?_⟩⟩
    · rw [smP, if_pos h0] at h4
      exact (Option.some.inj h4).symm
    · rw [smP, if_neg h0] at h4
      exact h4
theorem SpI.zl {p : Nat → Int × Int} {v f k : Nat} {t s S : Int} (h : SpI p v f k t s S) (hv : v ≤ 5000) : zl t ≤ 200 ∧ zl s ≤ 200 ∧ k ≤ 600 := by
  obtain ⟨h1, h2, h3, h4⟩ := h
  have x1 := h1.zl
  have x2 := h2.zl
  omega
theorem smP_abs {p : Nat → Int × Int} {v : Nat} (hg : GdP p) : ∀ (f k : Nat) (t s S : Int), SpI p v f k t s S → AbP S (v + 600)
  | f, k, t, s, S, h => by
    obtain ⟨g, rfl, hk, _, h1, h2⟩ := h.step hg
    by_cases h0 : stP p k t = 0
    · rw [h1 h0]
      exact h.2.1.up (by omega)
    · exact smP_abs hg g _ _ _ _ (h2 h0)
theorem sp_first {p : Nat → Int × Int} {v : Nat} {S : Int} (h : smP p 600 0 (2 ^ v) 0 = some S) : SpI p v 600 0 (2 ^ v) 0 S := ⟨(tm_one v).abs.1, AbP.zero _, rfl, h⟩
theorem exP_good : GdP (exP 1) := fun k hk => by
  unfold exP
  split <;> simp only <;> omega
theorem tnP_good {n sg : Int} (h : (n, sg) = (5, 1) ∨ (n, sg) = (239, 1) ∨ (n, sg) = (26, -1) ∨ (n, sg) = (4801, -1) ∨ (n, sg) = (8749, -1)) : GdP (tnP n sg) := fun k hk => by
  unfold tnP
  rcases h with h | h | h | h | h <;> obtain ⟨rfl, rfl⟩ := Prod.mk.inj h <;> split <;> simp only <;> omega
/-- The ends at the precision k of a sum in units of 2^-(k + 32). -/
def loC (T : Int) : Int := (T - 262144) / 4294967296
def hiC (T : Int) : Int := cdv (T + 262144) 4294967296
/-- The floor of the product of an integer and a fraction. -/
theorem cut_st (p : Nat → Int × Int) (k : Nat) (t : Int) (h : 0 < (p k).2) : cutQ (Rat.divInt (t * (Rat.divInt (p k).1 (p k).2).num) (((1 : Nat) : Int) * ((Rat.divInt (p k).1 (p k).2).den : Int))) 0 = stP p k t := by
  obtain ⟨d, hd⟩ : ∃ d : Nat, (p k).2 = (d : Int) := ⟨(p k).2.toNat, by omega⟩
  have e : Rat.divInt (t * (Rat.divInt (p k).1 (p k).2).num) (((1 : Nat) : Int) * ((Rat.divInt (p k).1 (p k).2).den : Int)) = Rat.divInt (t * (p k).1) (d : Int) := by
    rw [← Rat.divInt_mul_divInt, Rat.num_divInt_den, hd, ← Int.mul_one (d : Int), Int.mul_comm (d : Int), ← Rat.divInt_mul_divInt, Int.one_mul]
    rfl
  unfold stP
  rw [e, cut_eq _ d (by omega) 0, hd]
  simp

theorem own_lit0 (w : World) : Own (w.alloc (.cells #[] 107)) w.heap.size (.slice (some ⟨w.heap.size, 0, none⟩) 0 0) [] :=
  ⟨World.ownsRow_lit w #[] 0 (Nat.le_refl _) (by unfold maxLen; omega) rfl, small_nil⟩
/-- A natural, in memory that is not an argument's. -/
def RetNn (w : World) (x : Nat) (en : Ending) (w' : World) : Prop := ∃ v, en = .returned v ∧ IsN w' v x ∧ Below w.heap.size w w'
set_option maxHeartbeats 2000000 in
theorem clone_any (x : Nat) (vx : Value) (w : World) (hx : IsN w vx x) (hl : len x ≤ 1000000) :
    Calls Tryz.prog 195 #[vx] w (RetNn w x) := by
  obtain ⟨A, n, c, rfl, hs⟩ := hx
  have qT : ∀ (w : World) (a : Option Addr) (n c n' c' : Nat), (binOp .eql 25 (.slice a n c) (.slice none n' c')).run Tryz.prog w = .ok (.bool a.isNone) w := fun w a n c n' c' => Lib.run_eql_slice_nil w _ _ a n c n' c' Tryz.underlying25
  have hn : len x = n := by rw [← length_dig]; exact hs.len
  cases A with
  | none =>
    have hx0 : x = 0 := by
      rcases Nat.eq_zero_or_pos n with h0 | h0
      · rw [h0] at hn
        rcases Nat.eq_zero_or_pos x with h1 | h1
        · exact h1
        · have := len_pos h1
          omega
      · obtain ⟨_, _, e, _⟩ := hs.place h0
        cases e
    subst hx0
    clear hs hn hl
    go_enter Tryz.func195, Tryz.ntmps195
    go_wp2_with fail
    go_ret
    exact ⟨_, rfl, IsN.zero _, Below.refl _ _⟩
  | some a =>
    have hsl : n ≤ 1000000 := by omega
    have HS := Lib.hid hs
    clear hs hn hl
    go_enter Tryz.func195, Tryz.ntmps195
    go_wp2_with (at_builtin; refine wp_appS _ rfl _ _ rfl w.heap.size _ [] rfl (own_lit0 w) (some a) n c (dig x) rfl (HS.out.mono ((Below.refl _ w).alloc (Nat.le_refl _) _)) (by simp; omega) (by simp) ?_)
    intro v2 w2 h2 g2
    have b2 := ((Below.refl w.heap.size w).alloc (Nat.le_refl _) (.cells #[] 107)).grown g2 (by simp) (fun k hk => (own_lit0 w).blockGe k hk)
    have h2' : Own w2 w.heap.size v2 (dig x) := h2
    obtain ⟨A2, c2, e2, hs2, _⟩ := h2'.form
    clear h2 g2 h2'
    go_wp2_with fail
    go_ret
    exact ⟨v2, rfl, ⟨A2, _, c2, e2, hs2⟩, b2⟩

set_option maxHeartbeats 4000000 in
theorem icopied_any (m e : Int) (vx : Value) (w : World) (hx : IsD w vx m e) (lm : zl m ≤ 1000) :
    Calls Tryz.prog 185 #[vx] w (RetD8 w m e) := by
  obtain ⟨A, c, rfl, _, hn1⟩ := hx.form
  have L0 := (Lq.mk0 w).n hn1
  have HC := Lib.hid (fun v W h => clone_any m.natAbs v W h (show len m.natAbs ≤ 1000000 from Nat.le_trans lm (by omega)))
  clear hx hn1 lm
  go_enter Tryz.func185, Tryz.ntmps185
  go_wp2_with fail
  have L := ((L0.varD (w.heap.size) (by simp) (ng m) A (zl m) c e).varD (w.heap.size + 1) (by simp) false none 0 0 0)
  have c00 := L.b0.c30
  have f00 := L.b0.fr 0
  have c01 := L.b0.c31
  have f01 := L.b0.fr 1
  have c02 := L.b0.c32
  have f02 := L.b0.fr 2
  have c10 := L.tl.b0.c30
  have f10 := L.tl.b0.fr 0
  have c11 := L.tl.b0.c31
  have f11 := L.tl.b0.fr 1
  have c12 := L.tl.b0.c32
  have f12 := L.tl.b0.fr 2
  (try go_wp2_with fail)
  refine (HC.out _ _ (L.getN (v := .slice A (zl m) c) (x := (m).natAbs) (by simp))).mono ?_
  rintro e w1 ⟨v9, rfl, in9, be⟩
  clear c00 f00 c01 f01 c02 f02 c10 f10 c11 f11 c12 f12
  obtain ⟨A9, c9, e9⟩ := in9.form
  replace e9 : v9 = .slice A9 (zl m) c9 := e9
  subst e9
  replace L := (L.step be).n in9
  clear be in9
  replace L := L.swap
  have c00 := L.b0.c30
  have f00 := L.b0.fr 0
  have c01 := L.b0.c31
  have f01 := L.b0.fr 1
  have c02 := L.b0.c32
  have f02 := L.b0.fr 2
  have c10 := L.tl.b0.c30
  have f10 := L.tl.b0.fr 0
  have c11 := L.tl.b0.c31
  have f11 := L.tl.b0.fr 1
  have c12 := L.tl.b0.c32
  have f12 := L.tl.b0.fr 2
  have LS : Lq _ _ _ _ _ ((w.heap.size, 29, #[.bool (ng m), .slice A9 (zl m) c9, .int .i64 e]) :: _) := L.set (by omega) (by first | (simp; done) | (simp; omega)) 1 (.slice A9 (zl m) c9) (by intro x e; cases e)
  have s00 := LS.b0.c30
  have s01 := LS.b0.c31
  have s02 := LS.b0.c32
  have r00 := LS.tl.b0.fr 0
  have r01 := LS.tl.b0.fr 1
  have r02 := LS.tl.b0.fr 2
  (try go_wp2_with fail)
  clear s00 s01 s02 r00 r01 r02
  replace L := LS.swap
  clear LS
  have LP := L.putD (by omega) (by first | (simp; done) | (simp; omega)) (ng m) A9 (zl m) c9 (e)
  have k0 := LP.b0.c30
  have k1 := LP.b0.c31
  have k2 := LP.b0.c32
  unfold put3 at k0 k1 k2
  exact bodyPost_ret (v := .agg #[.bool (ng m), .slice A9 (zl m) c9, .int .i64 (e)]) (by simp [results, Tryz.results185, go_sem, k0, k1, k2]) rfl ⟨_, rfl, isD_n (LP.getN (by simp)), LP.below⟩
set_option maxHeartbeats 8000000 in
theorem ibetween_any (m e n f : Int) (vx vy : Value) (w : World) (hx : IsD w vx m e) (hy : IsD w vy n f) (lm : zl m ≤ 1000) (ln : zl n ≤ 1000) (he : -70000 ≤ e ∧ e ≤ 70000) (hf : -70000 ≤ f ∧ f ≤ 70000) :
    Calls Tryz.prog 160 #[vx, vy] w (RetI6 w m e n f) := by
  obtain ⟨A, c, rfl, _, hn1⟩ := hx.form
  obtain ⟨B, d, rfl, _, hn2⟩ := hy.form
  have L0 := ((Lq.mk0 w).n hn2).n hn1
  have H1 := Lib.hid (fun v W h => icopied_any m e v W h lm)
  have H2 := Lib.hid (fun v W h => icopied_any n f v W h ln)
  clear hx hy hn1 hn2 lm ln he hf
  go_enter Tryz.func160, Tryz.ntmps160
  go_wp2_with fail
  have L := (((L0.varD (w.heap.size) (by simp) (ng m) A (zl m) c e).varD (w.heap.size + 1) (by simp) (ng n) B (zl n) d f).varI (w.heap.size + 2) (by simp) false none 0 0 0 false none 0 0 0)
  replace L := L.drew
  have c00 := L.b0.c60
  have f00 := L.b0.fr 0
  have c01 := L.b0.c61
  have f01 := L.b0.fr 1
  have c02 := L.b0.c62
  have f02 := L.b0.fr 2
  have c03 := L.b0.c63
  have f03 := L.b0.fr 3
  have c04 := L.b0.c64
  have f04 := L.b0.fr 4
  have c05 := L.b0.c65
  have f05 := L.b0.fr 5
  have c10 := L.tl.b0.c30
  have c11 := L.tl.b0.c31
  have c12 := L.tl.b0.c32
  have c20 := L.tl.tl.b0.c30
  have c21 := L.tl.tl.b0.c31
  have c22 := L.tl.tl.b0.c32
  go_region_held3 (fun w' => w'.cell? ⟨w.heap.size, 0, none⟩ = some (.bool (ng m)) ∧ w'.cell? ⟨w.heap.size, 1, none⟩ = some (.slice A (zl m) c) ∧ w'.cell? ⟨w.heap.size, 2, none⟩ = some (.int .i64 e) ∧ w'.cell? ⟨w.heap.size + 1, 0, none⟩ = some (.bool (ng n)) ∧ w'.cell? ⟨w.heap.size + 1, 1, none⟩ = some (.slice B (zl n) d) ∧ w'.cell? ⟨w.heap.size + 1, 2, none⟩ = some (.int .i64 f)) (first | (with_reducible exact ⟨L.tl.tl.b0.c30, L.tl.tl.b0.c31, L.tl.tl.b0.c32, L.tl.b0.c30, L.tl.b0.c31, L.tl.b0.c32⟩) | (have LP := L.putI (by omega) (by first | (simp; done) | (simp; omega)) (ng m) A8 (zl m) c8 (e) (ng n) A9 (zl n) c9 (f); unfold put6 at LP; with_reducible exact ⟨LP.tl.tl.b0.c30, LP.tl.tl.b0.c31, LP.tl.tl.b0.c32, LP.tl.b0.c30, LP.tl.b0.c31, LP.tl.b0.c32⟩) | exact ⟨L.tl.tl.b0.c30, L.tl.tl.b0.c31, L.tl.tl.b0.c32, L.tl.b0.c30, L.tl.b0.c31, L.tl.b0.c32⟩) (first | (go_at_call 185; (with_reducible refine (H1.out _ _ ?_ ).mono ?_); (· (refine isD_n (L.getN ?_); (repeat (first | (with_reducible exact List.mem_cons_self) | apply List.mem_cons_of_mem)))); rintro e wh ⟨vh, rfl, id, be⟩; obtain ⟨A8, c8, rfl, _, in9⟩ := id.form; replace L := (L.step be).n in9; clear be id in9; (try (have x00 := L.b0.c60; have y00 := L.b0.fr 0; have x01 := L.b0.c61; have y01 := L.b0.fr 1; have x02 := L.b0.c62; have y02 := L.b0.fr 2; have x03 := L.b0.c63; have y03 := L.b0.fr 3; have x04 := L.b0.c64; have y04 := L.b0.fr 4; have x05 := L.b0.c65; have y05 := L.b0.fr 5))) | (go_at_call 185; (with_reducible refine (H2.out _ _ ?_ ).mono ?_); (· (refine isD_n (L.getN ?_); (repeat (first | (with_reducible exact List.mem_cons_self) | apply List.mem_cons_of_mem)))); rintro e wh ⟨vh, rfl, id, be⟩; obtain ⟨A9, c9, rfl, _, in9⟩ := id.form; replace L := (L.step be).n in9; clear be id in9; (try (have x00 := L.b0.c60; have y00 := L.b0.fr 0; have x01 := L.b0.c61; have y01 := L.b0.fr 1; have x02 := L.b0.c62; have y02 := L.b0.fr 2; have x03 := L.b0.c63; have y03 := L.b0.fr 3; have x04 := L.b0.c64; have y04 := L.b0.fr 4; have x05 := L.b0.c65; have y05 := L.b0.fr 5))))
  clear c00 f00 c01 f01 c02 f02 c03 f03 c04 f04 c05 f05 c10 c11 c12 c20 c21 c22
  go_wp2_with fail
  have LP := L.putI (by omega) (by first | (simp; done) | (simp; omega)) (ng m) A8 (zl m) c8 e (ng n) A9 (zl n) c9 f
  have k0 := LP.b0.c60
  have k1 := LP.b0.c61
  have k2 := LP.b0.c62
  have k3 := LP.b0.c63
  have k4 := LP.b0.c64
  have k5 := LP.b0.c65
  unfold put6 at k0 k1 k2 k3 k4 k5
  exact bodyPost_ret (v := .agg #[.bool (ng m), .slice A8 (zl m) c8, .int .i64 e, .bool (ng n), .slice A9 (zl n) c9, .int .i64 f]) (by simp [results, Tryz.results160, go_sem, k0, k1, k2, k3, k4, k5]) rfl ⟨_, rfl, isI_n (LP.getN (by simp)) (LP.getN (by simp)), LP.below⟩
set_option maxHeartbeats 8000000 in
theorem i10hull_any (m e n f m2 e2 n2 f2 : Int) (vx vy : Value) (w : World) (hx : IsI w vx m e n f) (hy : IsI w vy m2 e2 n2 f2) (lm : zl m ≤ 1000) (ln : zl n ≤ 1000) (lm2 : zl m2 ≤ 1000) (ln2 : zl n2 ≤ 1000) (he : -20000 ≤ e ∧ e ≤ 20000) (hf : -20000 ≤ f ∧ f ≤ 20000) (he2 : -20000 ≤ e2 ∧ e2 ≤ 20000) (hf2 : -20000 ≤ f2 ∧ f2 ≤ 20000) (hv1 : Dv m e) (hv2 : Dv n f) (hv3 : Dv m2 e2) (hv4 : Dv n2 f2) :
    Calls Tryz.prog 113 #[vx, vy] w (RetI6 w (lstD m e m2 e2).1 (lstD m e m2 e2).2 (gstD n f n2 f2).1 (gstD n f n2 f2).2) := by
  obtain ⟨A, c, B, d, rfl, hn1, hn2⟩ := hx.form
  obtain ⟨A2, k2, B2, d2, rfl, hn3, hn4⟩ := hy.form
  have L0 := ((((Lq.mk0 w).n hn4).n hn3).n hn2).n hn1
  have h1 := fun v u W k1 k2 => ilesser_any m e m2 e2 v u W k1 k2 lm lm2 he he2
  have h2 := fun v u W k1 k2 => igreater_any n f n2 f2 v u W k1 k2 ln ln2 hf hf2 hv2 hv4
  have z1 := lstD_zl lm lm2 (e := e) (f := e2)
  have z2 := gstD_zl ln ln2 (e := f) (f := f2)
  have i1 := lstD_in he he2 (m := m) (n := m2)
  have i2 := gstD_in hf hf2 (m := n) (n := n2)
  obtain ⟨um, ue, hu⟩ : ∃ x y, lstD m e m2 e2 = (x, y) := ⟨_, _, rfl⟩
  obtain ⟨zm, ze, hz⟩ : ∃ x y, gstD n f n2 f2 = (x, y) := ⟨_, _, rfl⟩
  rw [hu] at h1 z1 i1 ⊢
  rw [hz] at h2 z2 i2 ⊢
  simp only at z1 z2 i1 i2
  have HB := Lib.hid (fun v u W k1 k2 => ibetween_any um ue zm ze v u W k1 k2 z1 z2 (by omega) (by omega))
  have H1 := Lib.hid h1
  have H2 := Lib.hid h2
  dsimp only
  clear h1 h2 hu hz hx hy hn1 hn2 hn3 hn4 lm ln lm2 ln2 he hf he2 hf2 hv1 hv2 hv3 hv4 z1 z2 i1 i2
  go_enter Tryz.func113, Tryz.ntmps113
  go_wp2_with fail
  have L := (((L0.varI (w.heap.size) (by simp) (ng m) A (zl m) c e (ng n) B (zl n) d f).varI (w.heap.size + 1) (by simp) (ng m2) A2 (zl m2) k2 e2 (ng n2) B2 (zl n2) d2 f2).varI (w.heap.size + 2) (by simp) false none 0 0 0 false none 0 0 0)
  replace L := L.drew
  have c00 := L.b0.c60
  have f00 := L.b0.fr 0
  have c01 := L.b0.c61
  have f01 := L.b0.fr 1
  have c02 := L.b0.c62
  have f02 := L.b0.fr 2
  have c03 := L.b0.c63
  have f03 := L.b0.fr 3
  have c04 := L.b0.c64
  have f04 := L.b0.fr 4
  have c05 := L.b0.c65
  have f05 := L.b0.fr 5
  have c10 := L.tl.b0.c60
  have c11 := L.tl.b0.c61
  have c12 := L.tl.b0.c62
  have c13 := L.tl.b0.c63
  have c14 := L.tl.b0.c64
  have c15 := L.tl.b0.c65
  have c20 := L.tl.tl.b0.c60
  have c21 := L.tl.tl.b0.c61
  have c22 := L.tl.tl.b0.c62
  have c23 := L.tl.tl.b0.c63
  have c24 := L.tl.tl.b0.c64
  have c25 := L.tl.tl.b0.c65
  go_region_held3 (fun w' => w'.cell? ⟨w.heap.size, 0, none⟩ = some (.bool (ng m)) ∧ w'.cell? ⟨w.heap.size, 1, none⟩ = some (.slice A (zl m) c) ∧ w'.cell? ⟨w.heap.size, 2, none⟩ = some (.int .i64 e) ∧ w'.cell? ⟨w.heap.size, 3, none⟩ = some (.bool (ng n)) ∧ w'.cell? ⟨w.heap.size, 4, none⟩ = some (.slice B (zl n) d) ∧ w'.cell? ⟨w.heap.size, 5, none⟩ = some (.int .i64 f) ∧ w'.cell? ⟨w.heap.size + 1, 0, none⟩ = some (.bool (ng m2)) ∧ w'.cell? ⟨w.heap.size + 1, 1, none⟩ = some (.slice A2 (zl m2) k2) ∧ w'.cell? ⟨w.heap.size + 1, 2, none⟩ = some (.int .i64 e2) ∧ w'.cell? ⟨w.heap.size + 1, 3, none⟩ = some (.bool (ng n2)) ∧ w'.cell? ⟨w.heap.size + 1, 4, none⟩ = some (.slice B2 (zl n2) d2) ∧ w'.cell? ⟨w.heap.size + 1, 5, none⟩ = some (.int .i64 f2)) (first | (with_reducible exact ⟨L.tl.tl.b0.c60, L.tl.tl.b0.c61, L.tl.tl.b0.c62, L.tl.tl.b0.c63, L.tl.tl.b0.c64, L.tl.tl.b0.c65, L.tl.b0.c60, L.tl.b0.c61, L.tl.b0.c62, L.tl.b0.c63, L.tl.b0.c64, L.tl.b0.c65⟩) | (have LP := L.putI (by omega) (by first | (simp; done) | (simp; omega)) (ng um) A7 (zl um) c7 (ue) (ng zm) B7 (zl zm) d7 (ze); unfold put6 at LP; with_reducible exact ⟨LP.tl.tl.b0.c60, LP.tl.tl.b0.c61, LP.tl.tl.b0.c62, LP.tl.tl.b0.c63, LP.tl.tl.b0.c64, LP.tl.tl.b0.c65, LP.tl.b0.c60, LP.tl.b0.c61, LP.tl.b0.c62, LP.tl.b0.c63, LP.tl.b0.c64, LP.tl.b0.c65⟩) | exact ⟨L.tl.tl.b0.c60, L.tl.tl.b0.c61, L.tl.tl.b0.c62, L.tl.tl.b0.c63, L.tl.tl.b0.c64, L.tl.tl.b0.c65, L.tl.b0.c60, L.tl.b0.c61, L.tl.b0.c62, L.tl.b0.c63, L.tl.b0.c64, L.tl.b0.c65⟩) (first | (go_at_call 161; (with_reducible refine (H1.out _ _ _ ?_ ?_ ).mono ?_); (· (refine isD_n (L.getN ?_); (repeat (first | (with_reducible exact List.mem_cons_self) | apply List.mem_cons_of_mem)))); (· (refine isD_n (L.getN ?_); (repeat (first | (with_reducible exact List.mem_cons_self) | apply List.mem_cons_of_mem)))); rintro e wh ⟨vh, rfl, id, be⟩; obtain ⟨A8, c8, rfl, _, in9⟩ := id.form; replace L := (L.step be).n in9; clear be id in9; (try (have x00 := L.b0.c60; have y00 := L.b0.fr 0; have x01 := L.b0.c61; have y01 := L.b0.fr 1; have x02 := L.b0.c62; have y02 := L.b0.fr 2; have x03 := L.b0.c63; have y03 := L.b0.fr 3; have x04 := L.b0.c64; have y04 := L.b0.fr 4; have x05 := L.b0.c65; have y05 := L.b0.fr 5))) | (go_at_call 162; (with_reducible refine (H2.out _ _ _ ?_ ?_ ).mono ?_); (· (refine isD_n (L.getN ?_); (repeat (first | (with_reducible exact List.mem_cons_self) | apply List.mem_cons_of_mem)))); (· (refine isD_n (L.getN ?_); (repeat (first | (with_reducible exact List.mem_cons_self) | apply List.mem_cons_of_mem)))); rintro e wh ⟨vh, rfl, id, be⟩; obtain ⟨A9, c9, rfl, _, in9⟩ := id.form; replace L := (L.step be).n in9; clear be id in9; (try (have x00 := L.b0.c60; have y00 := L.b0.fr 0; have x01 := L.b0.c61; have y01 := L.b0.fr 1; have x02 := L.b0.c62; have y02 := L.b0.fr 2; have x03 := L.b0.c63; have y03 := L.b0.fr 3; have x04 := L.b0.c64; have y04 := L.b0.fr 4; have x05 := L.b0.c65; have y05 := L.b0.fr 5))) | (go_at_call 160; (with_reducible refine (HB.out _ _ _ ?_ ?_ ).mono ?_); (· (refine isD_n (L.getN ?_); (repeat (first | (with_reducible exact List.mem_cons_self) | apply List.mem_cons_of_mem)))); (· (refine isD_n (L.getN ?_); (repeat (first | (with_reducible exact List.mem_cons_self) | apply List.mem_cons_of_mem)))); rintro e wh ⟨vh, rfl, ii, be⟩; obtain ⟨A7, c7, B7, d7, rfl, ia, ib⟩ := ii.form; replace L := ((L.step be).n ib).n ia; clear be ii ia ib; (try (have x00 := L.b0.c60; have y00 := L.b0.fr 0; have x01 := L.b0.c61; have y01 := L.b0.fr 1; have x02 := L.b0.c62; have y02 := L.b0.fr 2; have x03 := L.b0.c63; have y03 := L.b0.fr 3; have x04 := L.b0.c64; have y04 := L.b0.fr 4; have x05 := L.b0.c65; have y05 := L.b0.fr 5))))
  clear c00 f00 c01 f01 c02 f02 c03 f03 c04 f04 c05 f05 c10 c11 c12 c13 c14 c15 c20 c21 c22 c23 c24 c25
  go_wp2_with fail
  have LP := L.putI (by omega) (by first | (simp; done) | (simp; omega)) (ng um) A7 (zl um) c7 ue (ng zm) B7 (zl zm) d7 ze
  have k0 := LP.b0.c60
  have k1 := LP.b0.c61
  have k2 := LP.b0.c62
  have k3 := LP.b0.c63
  have k4 := LP.b0.c64
  have k5 := LP.b0.c65
  unfold put6 at k0 k1 k2 k3 k4 k5
  exact bodyPost_ret (v := .agg #[.bool (ng um), .slice A7 (zl um) c7, .int .i64 ue, .bool (ng zm), .slice B7 (zl zm) d7, .int .i64 ze]) (by simp [results, Tryz.results113, go_sem, k0, k1, k2, k3, k4, k5]) rfl ⟨_, rfl, isI_n (LP.getN (by simp)) (LP.getN (by simp)), LP.below⟩

set_option maxHeartbeats 4000000 in
theorem dshift_any (m e k : Int) (vx : Value) (w : World) (hx : IsD w vx m e) (lm : zl m ≤ 20000) (he : -1000000 ≤ e ∧ e ≤ 1000000) (hk : -65536 ≤ k ∧ k ≤ 65536) (hT : Tab w) :
    Calls Tryz.prog 115 #[vx, .int .i64 k] w (RetDE w (mkM m (e + k)) (mkE m (e + k)) (mkR m (e + k))) := by
  obtain ⟨A, c, rfl, hz, hn⟩ := hx.form
  have L0 := (Lq.mk0 w).z hz
  obtain ⟨s, hs⟩ : ∃ s, e + k = s := ⟨_, rfl⟩
  have hw : IntKind.i64.wrap (e + k) = s := by rw [← hs, IntKind.wrap_i64]; omega
  have hw0 := fun W => within_any k 65536 W (by omega) (by omega)
  have hin : (decide (-65536 ≤ k) && decide (k ≤ 65536)) = true := by rw [decide_eq_true hk.1, decide_eq_true hk.2]; rfl
  rw [hin] at hw0
  have HW := Lib.hid hw0
  have HM0 := fun v W h (hW : Below w.heap.size w W) => dmake_any m s v W h (by omega) (hT.mono hW)
  rw [hs]
  generalize mkM m s = M at *
  generalize mkE m s = E at *
  generalize mkR m s = R at *
  have HM := Lib.hid HM0
  clear HM0 hw0 hin hs hx hz hn lm he hk hT
  go_enter Tryz.func115, Tryz.ntmps115
  go_wp2_with fail
  have L := ((L0.varD (w.heap.size) (by simp) (ng m) A (zl m) c e).varD (w.heap.size + 1) (by simp) false none 0 0 0)
  have c00 := L.b0.c30
  have f00 := L.b0.fr 0
  have c01 := L.b0.c31
  have f01 := L.b0.fr 1
  have c02 := L.b0.c32
  have f02 := L.b0.fr 2
  have c10 := L.tl.b0.c30
  have f10 := L.tl.b0.fr 0
  have c11 := L.tl.b0.c31
  have f11 := L.tl.b0.fr 1
  have c12 := L.tl.b0.c32
  have f12 := L.tl.b0.fr 2
  (try go_wp2_with fail)
  refine (HW.out _).mono ?_
  rintro e9 w' ⟨rfl, rfl⟩
  (try go_wp2_with fail)
  refine (HM.out _ _ (L.getZ (v := .agg #[.bool (ng m), .slice A (zl m) c]) (by simp)) L.below).mono ?_
  rintro e w1 ⟨v8, rfl, id, be⟩
  clear c00 f00 c01 f01 c02 f02 c10 f10 c11 f11 c12 f12
  obtain ⟨A9, c9, rfl, _, in9⟩ := id.form
  replace L := (L.step be).n in9
  clear be in9 id
  have c00 := L.b0.c30
  have f00 := L.b0.fr 0
  have c01 := L.b0.c31
  have f01 := L.b0.fr 1
  have c02 := L.b0.c32
  have f02 := L.b0.fr 2
  have c10 := L.tl.b0.c30
  have c11 := L.tl.b0.c31
  have c12 := L.tl.b0.c32
  (try go_wp2_with fail)
  have LP := L.putD (by omega) (by first | (simp; done) | (simp; omega)) (ng M) A9 (zl M) c9 (E)
  have k0 := LP.b0.c30
  have k1 := LP.b0.c31
  have k2 := LP.b0.c32
  unfold put3 at k0 k1 k2
  exact bodyPost_ret (v := .tuple #[.agg #[.bool (ng M), .slice A9 (zl M) c9, .int .i64 (E)], .int .i64 R]) (by simp [results, Tryz.results115, go_sem, k0, k1, k2]) rfl ⟨_, rfl, isD_n LP.hn, LP.below⟩
set_option maxHeartbeats 4000000 in
theorem cfrac_any (num den : Int) (w : World) (h1 : -4611686018427387904 ≤ num) (h2 : num ≤ 4611686018427387904) (hd : 0 < den) (hd2 : den ≤ 4611686018427387904) :
    Calls Tryz.prog 120 #[.int .i64 num, .int .i64 den] w (RetQ w (Rat.divInt num den)) := by
  have z1 := len_le2 (x := num.natAbs) (by omega)
  have z2 := len_le2 (x := den.natAbs) (by omega)
  have z3 := len_le2 (x := 1) (by omega)
  have g1 := fun W => pof_any num W (by omega) (by omega)
  have g2 := fun W => pof_any den W (by omega) (by omega)
  have g3 := fun v u W h k => pdiv_any num 1 den 1 v u W h k (show zl num ≤ 1000000 from Nat.le_trans z1 (by omega)) (by omega) (show zl den ≤ 1000000 from Nat.le_trans z2 (by omega)) (by omega) (by omega) (by omega)
  rw [show Rat.divInt (num * ((1 : Nat) : Int)) (((1 : Nat) : Int) * den) = Rat.divInt num den by rw [Int.natCast_one, Int.mul_one, Int.one_mul]] at g3
  unfold RetQ at g1 g2 ⊢
  simp only [Rat.num_intCast, Rat.den_intCast] at g1 g2
  generalize (Rat.divInt num den).num = a at *
  generalize (Rat.divInt num den).den = k at *
  have G1 := Lib.hid g1
  have G2 := Lib.hid g2
  have G3 := Lib.hid g3
  clear g1 g2 g3 z1 z2 z3
  go_enter Tryz.func120, Tryz.ntmps120
  have L := ((Lq.mk0 w).varQ (w.heap.size) (by simp) false none none 0 0 0 0)
  have c00 := L.b0.c30
  have f00 := L.b0.fr 0
  have c01 := L.b0.c31
  have f01 := L.b0.fr 1
  have c02 := L.b0.c32
  have f02 := L.b0.fr 2
  (try go_wp2_with fail)
  refine (G1.out _).mono ?_
  rintro e w1 ⟨vv, rfl, iq, be⟩
  clear c00 f00 c01 f01 c02 f02
  obtain ⟨A1, c1, B1, d1, rfl, _, ia, ib⟩ := iq.form
  replace L := ((L.step be).n ib).n ia
  clear be iq ia ib
  have c00 := L.b0.c30
  have f00 := L.b0.fr 0
  have c01 := L.b0.c31
  have f01 := L.b0.fr 1
  have c02 := L.b0.c32
  have f02 := L.b0.fr 2
  (try go_wp2_with fail)
  refine (G2.out _).mono ?_
  rintro e w2 ⟨vv, rfl, iq, be⟩
  clear c00 f00 c01 f01 c02 f02
  obtain ⟨A2, c2, B2, d2, rfl, _, ia, ib⟩ := iq.form
  replace L := ((L.step be).n ib).n ia
  clear be iq ia ib
  have c00 := L.b0.c30
  have f00 := L.b0.fr 0
  have c01 := L.b0.c31
  have f01 := L.b0.fr 1
  have c02 := L.b0.c32
  have f02 := L.b0.fr 2
  (try go_wp2_with fail)
  refine (G3.out _ _ _ ⟨.slice A1 (zl num) c1, .slice B1 (len 1) d1, rfl, L.getN (by simp), L.getN (by simp)⟩ ⟨.slice A2 (zl den) c2, .slice B2 (len 1) d2, rfl, L.getN (by simp), L.getN (by simp)⟩).mono ?_
  rintro e w3 ⟨vv, rfl, iq, be⟩
  clear c00 f00 c01 f01 c02 f02
  obtain ⟨A3, c3, B3, d3, rfl, _, ia, ib⟩ := iq.form
  replace L := ((L.step be).n ib).n ia
  clear be iq ia ib
  have hl9 := L.b0.lt
  have c00 := L.b0.c30
  have f00 := L.b0.fr 0
  have c01 := L.b0.c31
  have f01 := L.b0.fr 1
  have c02 := L.b0.c32
  have f02 := L.b0.fr 2
  have LN := L.varQ w3.heap.size rfl (ng a) A3 B3 (zl a) c3 (len k) d3
  have n0 := LN.b0.c30
  have n1 := LN.b0.c31
  have n2 := LN.b0.c32
  go_wp2_with fail
  clear c00 f00 c01 f01 c02 f02
  have LP0 := L.putQ (by omega) (by simp) (ng a) A3 B3 (zl a) c3 (len k) d3
  have LP := LP0.varQ _ rfl (ng a) A3 B3 (zl a) c3 (len k) d3
  have k0 := LP.tl.b0.c30
  have k1 := LP.tl.b0.c31
  have k2 := LP.tl.b0.c32
  unfold put3 at k0 k1 k2
  exact bodyPost_ret (v := .agg #[.bool (ng a), .slice A3 (zl a) c3, .slice B3 (len k) d3]) (by simp [results, Tryz.results120, go_sem, k0, k1, k2]) rfl ⟨_, rfl, ⟨_, _, rfl, LP.getN (by simp), LP.getN (by simp)⟩, LP.below⟩
set_option maxHeartbeats 4000000 in
theorem ctang_any (n sg : Int) (j : Nat) (w : World) (hn : 2 ≤ n) (hn2 : n ≤ 10000) (hs : sg = 1 ∨ sg = -1) (hj : j ≤ 1000) :
    Calls Tryz.prog 118 #[.int .i64 n, .int .i64 (j : Int), .int .i64 sg] w (RetQ w (Rat.divInt (tnP n sg j).1 (tnP n sg j).2)) := by
  have hnn : n * n ≤ 10000 * 10000 := Int.mul_le_mul hn2 hn2 (by omega) (by omega)
  have hnn2 : 2 * 2 ≤ n * n := Int.mul_le_mul hn hn (by omega) (by omega)
  obtain ⟨q, hq⟩ : ∃ q, n * n = q := ⟨_, rfl⟩
  obtain ⟨b, hb⟩ : ∃ b, q + sg = b := ⟨_, rfl⟩
  have w1 : IntKind.i64.wrap (n * n) = q := by rw [IntKind.wrap_i64]; omega
  have w2 : IntKind.i64.wrap (q + sg) = b := by rw [IntKind.wrap_i64]; omega
  have w3 : IntKind.i64.wrap (sg * 2) = sg * 2 := by rw [IntKind.wrap_i64]; omega
  obtain ⟨u, hu⟩ : ∃ u, sg * 2 * (j : Int) = u := ⟨_, rfl⟩
  have hub : -2000 ≤ u ∧ u ≤ 2000 := by rcases hs with rfl | rfl <;> omega
  have w4 : IntKind.i64.wrap (sg * 2 * (j : Int)) = u := by rw [IntKind.wrap_i64]; omega
  have w5 : IntKind.i64.wrap (2 * (j : Int)) = 2 * (j : Int) := by rw [IntKind.wrap_i64]; omega
  obtain ⟨m, hm⟩ : ∃ m : Int, 2 * (j : Int) + 1 = m := ⟨_, rfl⟩
  have w6 : IntKind.i64.wrap (2 * (j : Int) + 1) = m := by rw [IntKind.wrap_i64]; omega
  rw [hq] at hnn hnn2
  have hmb : m * b ≤ 2001 * 100000001 := Int.mul_le_mul (by omega) (by omega) (by omega) (by omega)
  have hmb2 : 1 * 3 ≤ m * b := Int.mul_le_mul (by omega) (by omega) (by omega) (by omega)
  obtain ⟨y, hy⟩ : ∃ y, m * b = y := ⟨_, rfl⟩
  rw [hy] at hmb hmb2
  have w7 : IntKind.i64.wrap (m * b) = y := by rw [IntKind.wrap_i64]; omega
  unfold tnP
  by_cases hj0 : j = 0
  · subst hj0
    rw [if_pos rfl]
    simp only
    rw [hq, hb]
    have g1 := fun W => cfrac_any n b W (by omega) (by omega) (by omega) (by omega)
    unfold RetQ at g1 ⊢
    generalize (Rat.divInt n b).num = a at *
    generalize (Rat.divInt n b).den = k at *
    have G1 := Lib.hid g1
    clear g1 hy hm hu hb hq hnn hnn2 hmb hmb2 w3 w4 w5 w6 w7 hub
    go_enter Tryz.func118, Tryz.ntmps118
    have L := ((Lq.mk0 w).varQ (w.heap.size) (by simp) false none none 0 0 0 0)
    have c00 := L.b0.c30
    have f00 := L.b0.fr 0
    have c01 := L.b0.c31
    have f01 := L.b0.fr 1
    have c02 := L.b0.c32
    have f02 := L.b0.fr 2
    (try go_wp2_with fail)
    refine (G1.out _).mono ?_
    rintro e w1 ⟨vv, rfl, iq, be⟩
    clear c00 f00 c01 f01 c02 f02
    obtain ⟨A9, c9, B9, d9, rfl, _, ia, ib⟩ := iq.form
    replace L := ((L.step be).n ib).n ia
    clear be iq ia ib
    have c00 := L.b0.c30
    have f00 := L.b0.fr 0
    have c01 := L.b0.c31
    have f01 := L.b0.fr 1
    have c02 := L.b0.c32
    have f02 := L.b0.fr 2
    (try go_wp2_with fail)
    have LP := L.putQ (by omega) (by first | (simp; done) | (simp; omega)) (ng (a)) A9 B9 (zl (a)) c9 (len (k)) d9
    have k0 := LP.b0.c30
    have k1 := LP.b0.c31
    have k2 := LP.b0.c32
    unfold put3 at k0 k1 k2
    exact bodyPost_ret (v := .agg #[.bool (ng (a)), .slice A9 (zl (a)) c9, .slice B9 (len (k)) d9]) (by simp [results, Tryz.results118, go_sem, k0, k1, k2]) rfl ⟨_, rfl, ⟨_, _, rfl, LP.getN (by simp), LP.getN (by simp)⟩, LP.below⟩
  · rw [if_neg hj0]
    simp only
    rw [hq, hb, hu, hm, hy]
    have q0 : ((j : Int) == 0) = false := by rw [beq_eq_false_iff_ne]; omega
    have g1 := fun W => cfrac_any u y W (by omega) (by omega) (by omega) (by omega)
    unfold RetQ at g1 ⊢
    generalize (Rat.divInt u y).num = a at *
    generalize (Rat.divInt u y).den = k at *
    have G1 := Lib.hid g1
    clear g1 hy hm hu hb hq hnn hnn2 hmb hmb2 hub
    go_enter Tryz.func118, Tryz.ntmps118
    have L := ((Lq.mk0 w).varQ (w.heap.size) (by simp) false none none 0 0 0 0)
    have c00 := L.b0.c30
    have f00 := L.b0.fr 0
    have c01 := L.b0.c31
    have f01 := L.b0.fr 1
    have c02 := L.b0.c32
    have f02 := L.b0.fr 2
    (try go_wp2_with fail)
    refine (G1.out _).mono ?_
    rintro e w1 ⟨vv, rfl, iq, be⟩
    clear c00 f00 c01 f01 c02 f02
    obtain ⟨A9, c9, B9, d9, rfl, _, ia, ib⟩ := iq.form
    replace L := ((L.step be).n ib).n ia
    clear be iq ia ib
    have c00 := L.b0.c30
    have f00 := L.b0.fr 0
    have c01 := L.b0.c31
    have f01 := L.b0.fr 1
    have c02 := L.b0.c32
    have f02 := L.b0.fr 2
    (try go_wp2_with fail)
    have LP := L.putQ (by omega) (by first | (simp; done) | (simp; omega)) (ng (a)) A9 B9 (zl (a)) c9 (len (k)) d9
    have k0 := LP.b0.c30
    have k1 := LP.b0.c31
    have k2 := LP.b0.c32
    unfold put3 at k0 k1 k2
    exact bodyPost_ret (v := .agg #[.bool (ng (a)), .slice A9 (zl (a)) c9, .slice B9 (len (k)) d9]) (by simp [results, Tryz.results118, go_sem, k0, k1, k2]) rfl ⟨_, rfl, ⟨_, _, rfl, LP.getN (by simp), LP.getN (by simp)⟩, LP.below⟩
set_option maxHeartbeats 4000000 in
theorem cexp_any (j : Nat) (w : World) (hj : j ≤ 1000) :
    Calls Tryz.prog 63 #[.int .i64 1, .int .i64 (j : Int)] w (RetQ w (Rat.divInt (exP 1 j).1 (exP 1 j).2)) := by
  unfold exP
  by_cases hj0 : j = 0
  · subst hj0
    rw [if_pos rfl]
    simp only
    have g1 := fun W => pof_any 1 W (by omega) (by omega)
    rw [show ((1 : Int) : Rat) = Rat.divInt 1 1 from int_div 1] at g1
    unfold RetQ at g1 ⊢
    generalize (Rat.divInt 1 1).num = a at *
    generalize (Rat.divInt 1 1).den = k at *
    have G1 := Lib.hid g1
    clear g1
    go_enter Tryz.func63, Tryz.ntmps63
    have L := ((Lq.mk0 w).varQ (w.heap.size) (by simp) false none none 0 0 0 0)
    have c00 := L.b0.c30
    have f00 := L.b0.fr 0
    have c01 := L.b0.c31
    have f01 := L.b0.fr 1
    have c02 := L.b0.c32
    have f02 := L.b0.fr 2
    (try go_wp2_with fail)
    refine (G1.out _).mono ?_
    rintro e w1 ⟨vv, rfl, iq, be⟩
    clear c00 f00 c01 f01 c02 f02
    obtain ⟨A9, c9, B9, d9, rfl, _, ia, ib⟩ := iq.form
    replace L := ((L.step be).n ib).n ia
    clear be iq ia ib
    have c00 := L.b0.c30
    have f00 := L.b0.fr 0
    have c01 := L.b0.c31
    have f01 := L.b0.fr 1
    have c02 := L.b0.c32
    have f02 := L.b0.fr 2
    (try go_wp2_with fail)
    have LP := L.putQ (by omega) (by first | (simp; done) | (simp; omega)) (ng (a)) A9 B9 (zl (a)) c9 (len (k)) d9
    have k0 := LP.b0.c30
    have k1 := LP.b0.c31
    have k2 := LP.b0.c32
    unfold put3 at k0 k1 k2
    exact bodyPost_ret (v := .agg #[.bool (ng (a)), .slice A9 (zl (a)) c9, .slice B9 (len (k)) d9]) (by simp [results, Tryz.results63, go_sem, k0, k1, k2]) rfl ⟨_, rfl, ⟨_, _, rfl, LP.getN (by simp), LP.getN (by simp)⟩, LP.below⟩
  · rw [if_neg hj0]
    simp only
    have q0 : ((j : Int) == 0) = false := by rw [beq_eq_false_iff_ne]; omega
    have w1 : IntKind.i64.wrap ((j : Int) * 1) = (j : Int) := by rw [IntKind.wrap_i64]; omega
    have w2 : IntKind.i64.wrap (j : Int) = (j : Int) := by rw [IntKind.wrap_i64]; omega
    have g1 := fun W => cfrac_any 1 (j : Int) W (by omega) (by omega) (by omega) (by omega)
    rw [Int.mul_one]
    unfold RetQ at g1 ⊢
    generalize (Rat.divInt 1 (j : Int)).num = a at *
    generalize (Rat.divInt 1 (j : Int)).den = k at *
    have G1 := Lib.hid g1
    clear g1
    go_enter Tryz.func63, Tryz.ntmps63
    have L := ((Lq.mk0 w).varQ (w.heap.size) (by simp) false none none 0 0 0 0)
    have c00 := L.b0.c30
    have f00 := L.b0.fr 0
    have c01 := L.b0.c31
    have f01 := L.b0.fr 1
    have c02 := L.b0.c32
    have f02 := L.b0.fr 2
    (try go_wp2_with fail)
    refine (G1.out _).mono ?_
    rintro e w1 ⟨vv, rfl, iq, be⟩
    clear c00 f00 c01 f01 c02 f02
    obtain ⟨A9, c9, B9, d9, rfl, _, ia, ib⟩ := iq.form
    replace L := ((L.step be).n ib).n ia
    clear be iq ia ib
    have c00 := L.b0.c30
    have f00 := L.b0.fr 0
    have c01 := L.b0.c31
    have f01 := L.b0.fr 1
    have c02 := L.b0.c32
    have f02 := L.b0.fr 2
    (try go_wp2_with fail)
    have LP := L.putQ (by omega) (by first | (simp; done) | (simp; omega)) (ng (a)) A9 B9 (zl (a)) c9 (len (k)) d9
    have k0 := LP.b0.c30
    have k1 := LP.b0.c31
    have k2 := LP.b0.c32
    unfold put3 at k0 k1 k2
    exact bodyPost_ret (v := .agg #[.bool (ng (a)), .slice A9 (zl (a)) c9, .slice B9 (len (k)) d9]) (by simp [results, Tryz.results63, go_sem, k0, k1, k2]) rfl ⟨_, rfl, ⟨_, _, rfl, LP.getN (by simp), LP.getN (by simp)⟩, LP.below⟩
set_option maxHeartbeats 4000000 in
theorem carc_any (n : Int) (j : Nat) (w : World) (hn : 2 ≤ n) (hn2 : n ≤ 10000) (hj : j ≤ 1000) :
    Calls Tryz.prog 62 #[.int .i64 n, .int .i64 (j : Int)] w (RetQ w (Rat.divInt (tnP n (1) j).1 (tnP n (1) j).2)) := by
  have g1 := fun W => ctang_any n (1) j W hn hn2 (by omega) hj
  unfold RetQ at g1 ⊢
  generalize (Rat.divInt (tnP n (1) j).1 (tnP n (1) j).2).num = a at *
  generalize (Rat.divInt (tnP n (1) j).1 (tnP n (1) j).2).den = k at *
  have G1 := Lib.hid g1
  clear g1
  go_enter Tryz.func62, Tryz.ntmps62
  have L := ((Lq.mk0 w).varQ (w.heap.size) (by simp) false none none 0 0 0 0)
  have c00 := L.b0.c30
  have f00 := L.b0.fr 0
  have c01 := L.b0.c31
  have f01 := L.b0.fr 1
  have c02 := L.b0.c32
  have f02 := L.b0.fr 2
  (try go_wp2_with fail)
  refine (G1.out _).mono ?_
  rintro e w1 ⟨vv, rfl, iq, be⟩
  clear c00 f00 c01 f01 c02 f02
  obtain ⟨A9, c9, B9, d9, rfl, _, ia, ib⟩ := iq.form
  replace L := ((L.step be).n ib).n ia
  clear be iq ia ib
  have c00 := L.b0.c30
  have f00 := L.b0.fr 0
  have c01 := L.b0.c31
  have f01 := L.b0.fr 1
  have c02 := L.b0.c32
  have f02 := L.b0.fr 2
  (try go_wp2_with fail)
  have LP := L.putQ (by omega) (by first | (simp; done) | (simp; omega)) (ng (a)) A9 B9 (zl (a)) c9 (len (k)) d9
  have k0 := LP.b0.c30
  have k1 := LP.b0.c31
  have k2 := LP.b0.c32
  unfold put3 at k0 k1 k2
  exact bodyPost_ret (v := .agg #[.bool (ng (a)), .slice A9 (zl (a)) c9, .slice B9 (len (k)) d9]) (by simp [results, Tryz.results62, go_sem, k0, k1, k2]) rfl ⟨_, rfl, ⟨_, _, rfl, LP.getN (by simp), LP.getN (by simp)⟩, LP.below⟩
set_option maxHeartbeats 4000000 in
theorem carea_any (n : Int) (j : Nat) (w : World) (hn : 2 ≤ n) (hn2 : n ≤ 10000) (hj : j ≤ 1000) :
    Calls Tryz.prog 64 #[.int .i64 n, .int .i64 (j : Int)] w (RetQ w (Rat.divInt (tnP n (-1) j).1 (tnP n (-1) j).2)) := by
  have g1 := fun W => ctang_any n (-1) j W hn hn2 (by omega) hj
  unfold RetQ at g1 ⊢
  generalize (Rat.divInt (tnP n (-1) j).1 (tnP n (-1) j).2).num = a at *
  generalize (Rat.divInt (tnP n (-1) j).1 (tnP n (-1) j).2).den = k at *
  have G1 := Lib.hid g1
  clear g1
  go_enter Tryz.func64, Tryz.ntmps64
  have L := ((Lq.mk0 w).varQ (w.heap.size) (by simp) false none none 0 0 0 0)
  have c00 := L.b0.c30
  have f00 := L.b0.fr 0
  have c01 := L.b0.c31
  have f01 := L.b0.fr 1
  have c02 := L.b0.c32
  have f02 := L.b0.fr 2
  (try go_wp2_with fail)
  refine (G1.out _).mono ?_
  rintro e w1 ⟨vv, rfl, iq, be⟩
  clear c00 f00 c01 f01 c02 f02
  obtain ⟨A9, c9, B9, d9, rfl, _, ia, ib⟩ := iq.form
  replace L := ((L.step be).n ib).n ia
  clear be iq ia ib
  have c00 := L.b0.c30
  have f00 := L.b0.fr 0
  have c01 := L.b0.c31
  have f01 := L.b0.fr 1
  have c02 := L.b0.c32
  have f02 := L.b0.fr 2
  (try go_wp2_with fail)
  have LP := L.putQ (by omega) (by first | (simp; done) | (simp; omega)) (ng (a)) A9 B9 (zl (a)) c9 (len (k)) d9
  have k0 := LP.b0.c30
  have k1 := LP.b0.c31
  have k2 := LP.b0.c32
  unfold put3 at k0 k1 k2
  exact bodyPost_ret (v := .agg #[.bool (ng (a)), .slice A9 (zl (a)) c9, .slice B9 (len (k)) d9]) (by simp [results, Tryz.results64, go_sem, k0, k1, k2]) rfl ⟨_, rfl, ⟨_, _, rfl, LP.getN (by simp), LP.getN (by simp)⟩, LP.below⟩
def okW (p : Int) : Bool := decide (0 ≤ p) && decide (p ≤ 4224)
set_option maxHeartbeats 1000000 in
theorem cperm_any (p : Int) (w : World) :
    Calls Tryz.prog 38 #[.int .i64 p] w (fun e w' => e = .returned (.bool (okW p)) ∧ w = w') := by
  unfold okW
  by_cases q1 : 0 ≤ p
  · have b1 : decide (0 ≤ p) = true := decide_eq_true q1
    rw [b1, Bool.true_and]
    go_enter Tryz.func38, Tryz.ntmps38
    go_wp2_with fail
    go_ret
    exact ⟨rfl, rfl⟩
  · have b1 : decide (0 ≤ p) = false := decide_eq_false q1
    rw [b1, Bool.false_and]
    go_enter Tryz.func38, Tryz.ntmps38
    go_wp2_with fail
    go_ret
    exact ⟨rfl, rfl⟩

theorem mk_fits9 {m e : Int} (h : zl m ≤ 700) (h1 : -40000 ≤ e) (h2 : e ≤ 40000) : mkR m e = 0 := by
  unfold mkR
  rw [if_neg (by omega)]
  by_cases h0 : m = 0
  · rw [if_pos h0]
  · rw [if_neg h0]
    have ht := tz_le8 m.natAbs (by omega)
    have e1 : zl m = len m.natAbs := rfl
    have hb : blen (oddM m).natAbs ≤ 65536 := by
      have := blen_le_len (oddM m).natAbs
      have h3 := zl_odd m
      have e2 : zl (oddM m) = len (oddM m).natAbs := rfl
      omega
    have ho : bitB (oddM m).natAbs 0 = true := by
      obtain ⟨k, hk⟩ := tz_form (x := m.natAbs) (by omega)
      have hd : m.natAbs / 2 ^ tz m.natAbs = 2 * k + 1 := by
        have := Nat.mul_div_cancel_left (2 * k + 1) (Nat.pow_pos (n := tz m.natAbs) (show 0 < 2 by omega))
        rwa [← hk] at this
      unfold bitB
      rw [oddM_abs, hd, Nat.pow_zero, Nat.div_one]
      exact decide_eq_true (by omega)
    have hf : fits8 (oddM m) (oddE m e) = true := by
      unfold fits8 oddE
      rw [decide_eq_true hb, decide_eq_true (by omega), decide_eq_true (by omega), ho]
      rfl
    rw [hf]
    rfl
theorem mk_uniq {a e b f : Int} (h1 : mkR a e = 0) (h2 : mkR b f = 0) (h : dq a e = dq b f) : mkM a e = mkM b f ∧ mkE a e = mkE b f :=
  dv_uniq (mk_ok h1) (mk_ok h2) (by rw [dq_mk h1, dq_mk h2, h])
theorem mkE_at {x y : Int} {k : Nat} (h : mkR x y = 0) (hz : zl x ≤ k) : mkE x y = 0 ∨ (y ≤ mkE x y ∧ mkE x y ≤ y + 32 * (k : Int)) := by
  unfold mkE
  by_cases h0 : x = 0
  · rw [if_pos h0]; exact Or.inl rfl
  · rw [if_neg h0, if_pos h]
    refine Or.inr ?_
    have ht := tz_le8 x.natAbs (by omega)
    have e1 : zl x = len x.natAbs := rfl
    unfold oddE
    omega
theorem nf {t : Int} {v : Nat} (h : AbP t v) (hv : v ≤ 6000) : mkR t 0 = 0 ∧ zl (mkM t 0) ≤ 200 ∧ 0 ≤ mkE t 0 ∧ mkE t 0 ≤ 6400 ∧ mkM t 0 * 2 ^ (mkE t 0).toNat = t ∧ dq (mkM t 0) (mkE t 0) = dq t 0 := by
  have hz := h.zl
  have hr : mkR t 0 = 0 := mk_fits2 (by omega) (by omega) (by omega)
  have z1 := zl_mk t 0
  have z2 := mkE_at hr (show zl t ≤ 190 by omega)
  refine ⟨hr, by omega, by omega, by omega, ?_, dq_mk hr⟩
  unfold mkM mkE
  rw [if_pos hr, if_pos hr]
  by_cases h0 : t = 0
  · subst h0; rw [oddM_zero]; simp
  · rw [if_neg h0, show (oddE t 0).toNat = tz t.natAbs from by unfold oddE; omega, odd_form]
theorem nf_zero {t : Int} {v : Nat} (h : AbP t v) (hv : v ≤ 6000) : mkM t 0 = 0 ↔ t = 0 := by
  obtain ⟨_, _, _, _, h5, _⟩ := nf h hv
  constructor
  · intro e
    rw [e, Int.zero_mul] at h5
    exact h5.symm
  · rintro rfl
    have hr := (nf (AbP.zero 0) (by omega)).1
    unfold mkM
    rw [if_pos hr]
    exact oddM_zero
theorem nf00 : mkM 0 0 = 0 ∧ mkE 0 0 = 0 := by
  refine ⟨(nf_zero (AbP.zero 0) (by omega)).2 rfl, ?_⟩
  unfold mkE
  rw [if_pos rfl]
/-- Such a dyadic's fraction. -/
theorem nf_rat {t : Int} {v : Nat} (h : AbP t v) (hv : v ≤ 6000) : mkM t 0 * 2 ^ (mkE t 0).toNat = t ∧ 2 ^ (-(mkE t 0)).toNat = 1 := by
  obtain ⟨_, _, h3, _, h5, _⟩ := nf h hv
  refine ⟨h5, ?_⟩
  rw [show (-(mkE t 0)).toNat = 0 by omega, Nat.pow_zero]
theorem nf_sign {t : Int} {v : Nat} (h : AbP t v) (hv : v ≤ 6000) : (cmpI (mkM t 0) 0 == 0) = decide (t = 0) := by
  have := nf_zero h hv
  unfold cmpI
  (repeat' split) <;> simp <;> omega
theorem nf_add {s t : Int} {v : Nat} (h1 : AbP s v) (h2 : AbP t v) (hv : v ≤ 5000) :
    mkR (addS (mkM s 0) (mkE s 0) (mkM t 0) (mkE t 0)) (min (mkE s 0) (mkE t 0)) = 0 ∧ mkM (addS (mkM s 0) (mkE s 0) (mkM t 0) (mkE t 0)) (min (mkE s 0) (mkE t 0)) = mkM (s + t) 0 ∧ mkE (addS (mkM s 0) (mkE s 0) (mkM t 0) (mkE t 0)) (min (mkE s 0) (mkE t 0)) = mkE (s + t) 0 := by
  obtain ⟨a1, a2, a3, a4, _, a6⟩ := nf h1 (by omega)
  obtain ⟨b1, b2, b3, b4, _, b6⟩ := nf h2 (by omega)
  have hz := zl_addS (mkM s 0) (mkE s 0) (mkM t 0) (mkE t 0) 6400 (by omega) (by omega)
  have hr : mkR (addS (mkM s 0) (mkE s 0) (mkM t 0) (mkE t 0)) (min (mkE s 0) (mkE t 0)) = 0 := mk_fits9 (by omega) (by omega) (by omega)
  obtain ⟨c1, _⟩ := nf (h1.add h2) (by omega)
  exact ⟨hr, mk_uniq hr c1 (by rw [dq_add, a6, b6, dq_int, dq_int, dq_int, Rat.intCast_add])⟩
theorem nf_sub {s t : Int} {v : Nat} (h1 : AbP s v) (h2 : AbP t v) (hv : v ≤ 5000) :
    mkR (addS (mkM s 0) (mkE s 0) (-(mkM t 0)) (mkE t 0)) (min (mkE s 0) (mkE t 0)) = 0 ∧ mkM (addS (mkM s 0) (mkE s 0) (-(mkM t 0)) (mkE t 0)) (min (mkE s 0) (mkE t 0)) = mkM (s - t) 0 ∧ mkE (addS (mkM s 0) (mkE s 0) (-(mkM t 0)) (mkE t 0)) (min (mkE s 0) (mkE t 0)) = mkE (s - t) 0 := by
  obtain ⟨a1, a2, a3, a4, _, a6⟩ := nf h1 (by omega)
  obtain ⟨b1, b2, b3, b4, _, b6⟩ := nf h2 (by omega)
  have hn := zl_neg (mkM t 0)
  have hz := zl_addS (mkM s 0) (mkE s 0) (-(mkM t 0)) (mkE t 0) 6400 (by omega) (by omega)
  have hr : mkR (addS (mkM s 0) (mkE s 0) (-(mkM t 0)) (mkE t 0)) (min (mkE s 0) (mkE t 0)) = 0 := mk_fits9 (by omega) (by omega) (by omega)
  obtain ⟨c1, _⟩ := nf (h1.add h2.neg) (by omega)
  rw [← Int.sub_eq_add_neg] at c1
  exact ⟨hr, mk_uniq hr c1 (by rw [dq_add, dq_neg, a6, b6, dq_int, dq_int, dq_int, Rat.intCast_sub, Rat.sub_eq_add_neg])⟩
theorem nf_mul {s t : Int} {v u : Nat} (h1 : AbP s v) (h2 : AbP t u) (hv : v + u ≤ 5000) :
    mkR (mkM s 0 * mkM t 0) (mkE s 0 + mkE t 0) = 0 ∧ mkM (mkM s 0 * mkM t 0) (mkE s 0 + mkE t 0) = mkM (s * t) 0 ∧ mkE (mkM s 0 * mkM t 0) (mkE s 0 + mkE t 0) = mkE (s * t) 0 := by
  obtain ⟨a1, a2, a3, a4, _, a6⟩ := nf h1 (by omega)
  obtain ⟨b1, b2, b3, b4, _, b6⟩ := nf h2 (by omega)
  have e1 := mkE_at a1 (k := 200) (by have := h1.zl; omega)
  have e2 := mkE_at b1 (k := 200) (by have := h2.zl; omega)
  obtain ⟨c1, _⟩ := nf (h1.mul h2) (by omega)
  have hz : zl (mkM s 0 * mkM t 0) ≤ 400 := by
    have := zl_mul (mkM s 0) (mkM t 0)
    omega
  have hr : mkR (mkM s 0 * mkM t 0) (mkE s 0 + mkE t 0) = 0 := mk_fits9 (by omega) (by omega) (by omega)
  exact ⟨hr, mk_uniq hr c1 (by rw [dq_mul, a6, b6, dq_int, dq_int, dq_int, Rat.intCast_mul])⟩
theorem dq_shift (s k : Int) : dq s k = dq s 0 * dq 1 k := by
  have := dq_mul s 0 1 k
  rw [Int.mul_one, Int.zero_add] at this
  exact this
theorem nf_dq {t k : Int} {v : Nat} (h : AbP t v) (hv : v ≤ 6000) : dq (mkM t 0) (mkE t 0 + k) = dq t k := by
  obtain ⟨_, _, _, _, _, h6⟩ := nf h hv
  have := dq_mul (mkM t 0) (mkE t 0) 1 k
  rw [Int.mul_one, h6, ← dq_shift] at this
  exact this
/-- Shifts up: of one. -/
theorem nf_up {k : Nat} (hk : k ≤ 4000) : mkR (mkM 1 0) (mkE 1 0 + (k : Int)) = 0 ∧ mkM (mkM 1 0) (mkE 1 0 + (k : Int)) = mkM (2 ^ k) 0 ∧ mkE (mkM 1 0) (mkE 1 0 + (k : Int)) = mkE (2 ^ k) 0 := by
  have h1 : AbP 1 0 := by unfold AbP; decide
  obtain ⟨a1, a2, a3, a4, _⟩ := nf h1 (by omega)
  obtain ⟨c1, _⟩ := nf ((tm_one k).abs.1) (by omega)
  have hr : mkR (mkM 1 0) (mkE 1 0 + (k : Int)) = 0 := mk_fits9 (by omega) (by omega) (by omega)
  refine ⟨hr, mk_uniq hr c1 ?_⟩
  rw [nf_dq h1 (by omega)]
  refine dq_eq (F := 0) ?_ (by omega) (by omega)
  rw [show ((k : Int) - 0).toNat = k by omega, show ((0 : Int) - 0).toNat = 0 by omega]
  simp
/-- Shifts down. -/
theorem nf_down {s : Int} {v k : Nat} (h : AbP s v) (hv : v ≤ 5000) (hk : k ≤ 5000) : mkR (mkM s 0) (mkE s 0 + -(k : Int)) = 0 ∧ Dv (mkM (mkM s 0) (mkE s 0 + -(k : Int))) (mkE (mkM s 0) (mkE s 0 + -(k : Int))) ∧ dq (mkM (mkM s 0) (mkE s 0 + -(k : Int))) (mkE (mkM s 0) (mkE s 0 + -(k : Int))) = dq s (-(k : Int)) ∧
    zl (mkM (mkM s 0) (mkE s 0 + -(k : Int))) ≤ 200 ∧ -20000 ≤ mkE (mkM s 0) (mkE s 0 + -(k : Int)) ∧ mkE (mkM s 0) (mkE s 0 + -(k : Int)) ≤ 20000 := by
  obtain ⟨a1, a2, a3, a4, _, a6⟩ := nf h (by omega)
  have e1 := mkE_at a1 (k := 160) (by have := h.zl; omega)
  have hr : mkR (mkM s 0) (mkE s 0 + -(k : Int)) = 0 := mk_fits9 (by omega) (by omega) (by omega)
  have z1 := zl_mk (mkM s 0) (mkE s 0 + -(k : Int))
  have e2 := mkE_at hr a2
  exact ⟨hr, mk_ok hr, by rw [dq_mk hr, nf_dq h (by omega)], by omega, by omega, by omega⟩


end Go.Proofs.YtfnklkdbieikeaaGreatDoor
