/- Joined: CoM, CpM, IvPD, CpA, CpN, CpB, IvPE (what the law leans on). -/
import Derived.Test.YtfnklkdbieikeaaGreatDoorBaseI
import Derived.Test.YtfnklkdbieikeaaGreatDoorBaseF
import Derived.Test.YtfnklkdbieikeaaGreatDoorBaseM
import Derived.Test.YtfnklkdbieikeaaGreatDoorBaseG
import Derived.Test.YtfnklkdbieikeaaGreatDoorGrPC
import Derived.Test.YtfnklkdbieikeaaGreatDoorBaseU
import Derived.Test.YtfnklkdbieikeaaGreatDoorBaseW
import Derived.Test.YtfnklkdbieikeaaGreatDoorBaseX
import Derived.Test.YtfnklkdbieikeaaGreatDoorBaseZ
import Derived.Deep.Cut
import Derived.Deep.CutRange
import Derived.Deep.DrawnRows
import Derived.Deep.RegionHeld3
import Derived.Lib.SliceRun
namespace Go.Proofs.YtfnklkdbieikeaaGreatDoor
open Go.RowKit
set_option linter.unusedVariables false
set_option linter.unusedSimpArgs false
set_option maxRecDepth 100000
attribute [local go_sem ↓] Go.wp_at_zero Go.wp_at_succ

/-- The ceiling of a quotient. -/
def cdv (x n : Int) : Int := -(-x / n)
theorem cdv_le {x n k : Int} (hn : 0 < n) : cdv x n ≤ k ↔ x ≤ k * n := by
  unfold cdv
  have h : -k ≤ -x / n ↔ -k * n ≤ -x := Int.le_ediv_iff_mul_le hn
  rw [Int.neg_mul] at h
  omega
theorem le_cdv {x n : Int} (hn : 0 < n) : x ≤ cdv x n * n := (cdv_le hn).1 (Int.le_refl _)
theorem div_cdv {x y n : Int} (hn : 0 < n) (h : x ≤ y) : x / n ≤ cdv y n := by
  have h1 := Int.ediv_mul_le x (show n ≠ 0 by omega)
  have h2 := le_cdv (x := y) hn
  exact Int.le_of_mul_le_mul_right (Int.le_trans h1 (Int.le_trans h h2)) hn
def AbP (x : Int) (j : Nat) : Prop := x.natAbs ≤ 2 ^ j
theorem AbP.zl {x : Int} {j : Nat} (h : AbP x j) : zl x ≤ j / 32 + 1 := Nat.le_trans (len_mono h) (len_two j)
theorem AbP.up {x : Int} {j k : Nat} (h : AbP x j) (hk : j ≤ k) : AbP x k := Nat.le_trans h (Nat.pow_le_pow_right (by omega) hk)
theorem AbP.add {x y : Int} {j : Nat} (h1 : AbP x j) (h2 : AbP y j) : AbP (x + y) (j + 1) := by
  unfold AbP at *
  rw [Nat.pow_succ]
  omega
theorem AbP.neg {x : Int} {j : Nat} (h : AbP x j) : AbP (-x) j := by
  unfold AbP at *
  rw [Int.natAbs_neg]; exact h
theorem AbP.zero (j : Nat) : AbP 0 j := Nat.zero_le _
theorem AbP.mul {x y : Int} {j k : Nat} (h1 : AbP x j) (h2 : AbP y k) : AbP (x * y) (j + k) := by
  unfold AbP at *
  rw [Int.natAbs_mul, Nat.pow_add]
  exact Nat.mul_le_mul h1 h2
/-- A term of a series: not negative, and at most 2^f. -/
def Tm (a b : Int) (f : Nat) : Prop := 0 ≤ a ∧ a ≤ b ∧ b ≤ ((2 ^ f : Nat) : Int)
theorem Tm.abs {a b : Int} {f : Nat} (h : Tm a b f) : AbP a f ∧ AbP b f := by
  unfold Tm at h; unfold AbP
  obtain ⟨P, hP⟩ : ∃ P : Nat, 2 ^ f = P := ⟨_, rfl⟩
  rw [hP] at h ⊢
  omega
theorem Tm.up {a b : Int} {f g : Nat} (h : Tm a b f) (hg : f ≤ g) : Tm a b g := by
  have := Nat.pow_le_pow_right (n := 2) (by omega) hg
  unfold Tm at *
  obtain ⟨P, hP⟩ : ∃ P : Nat, 2 ^ f = P := ⟨_, rfl⟩
  obtain ⟨Q, hQ⟩ : ∃ P : Nat, 2 ^ g = P := ⟨_, rfl⟩
  rw [hP] at this h
  rw [hQ] at this ⊢
  omega
theorem Tm.half {a b n : Int} {f : Nat} (hn : 2 ≤ n) (h : Tm a b (f + 1)) : Tm (a / n) (cdv b n) f := by
  refine ⟨Int.ediv_nonneg h.1 (by omega), div_cdv (by omega) h.2.1, (cdv_le (by omega)).2 (Int.le_trans h.2.2 ?_)⟩
  have h0 : (0 : Int) ≤ ((2 ^ f : Nat) : Int) := Int.natCast_nonneg _
  have := Int.mul_le_mul_of_nonneg_left hn h0
  rw [Nat.pow_succ]
  omega
theorem tm_one (v : Nat) : Tm (2 ^ v) (2 ^ v) v := by
  have e : ((2 ^ v : Nat) : Int) = 2 ^ v := by simp
  have := pow2_pos v
  unfold Tm
  omega
def tnP (n sg : Int) (k : Nat) : Int × Int := if k = 0 then (n, n * n + sg) else (sg * 2 * (k : Int), (2 * (k : Int) + 1) * (n * n + sg))
/-- The next term. -/
def stP (p : Nat → Int × Int) (k : Nat) (t : Int) : Int := t * (p k).1 / (p k).2
/-- The sum of the terms; none where they do not end in time. -/
def smP (p : Nat → Int × Int) : Nat → Nat → Int → Int → Option Int
  | 0, _, _, _ => none
  | f + 1, k, t, s => if stP p k t = 0 then some s else smP p f (k + 1) (stP p k t) (s + stP p k t)
/-- What is asked of the quotients. -/
def GdP (p : Nat → Int × Int) : Prop := ∀ k, k ≤ 1000 → ((p k).1.natAbs : Int) ≤ (p k).2 ∧ 0 < (p k).2 ∧ (p k).2 ≤ 4611686018427387904
theorem st_abs {p : Nat → Int × Int} {k : Nat} {t : Int} {j : Nat} (h : GdP p) (hk : k ≤ 1000) (ht : AbP t j) : AbP (stP p k t) j := by
  obtain ⟨h1, h2, h3⟩ := h k hk
  unfold AbP stP at *
  generalize (p k).1 = a at *
  generalize (p k).2 = b at *
  have x0 : ((t * a).natAbs : Int) ≤ (t.natAbs : Int) * b := by
    rw [Int.natAbs_mul, Int.natCast_mul]
    exact Int.mul_le_mul_of_nonneg_left h1 (Int.natCast_nonneg _)
  have x1 : t * a / b ≤ (t.natAbs : Int) := Int.ediv_le_of_le_mul h2 (by omega)
  have x2 : -(t.natAbs : Int) ≤ t * a / b := by
    rw [Int.le_ediv_iff_mul_le h2, Int.neg_mul]
    omega
  omega
/-- What is known ahead of each round. -/
def SpI (p : Nat → Int × Int) (v f k : Nat) (t s S : Int) : Prop := AbP t v ∧ AbP s (v + k) ∧ f + k = 600 ∧ smP p f k t s = some S
theorem SpI.step {p : Nat → Int × Int} {v f k : Nat} {t s S : Int} (hg : GdP p) (h : SpI p v f k t s S) : ∃ g, f = g + 1 ∧ k ≤ 600 ∧ AbP (stP p k t) v ∧
    (stP p k t = 0 → S = s) ∧ (stP p k t ≠ 0 → SpI p v g (k + 1) (stP p k t) (s + stP p k t) S) := by
  obtain ⟨h1, h2, h3, h4⟩ := h
  match f with
  | 0 => cases h4
  | g + 1 =>
    have h5 := st_abs hg (show k ≤ 1000 by omega) h1
    refine ⟨g, rfl, by omega, h5, fun h0 => ?_, fun h0 => ⟨h5, h2.add (h5.up (by omega)), by omega, ?_⟩⟩
    · rw [smP, if_pos h0] at h4
      exact (Option.some.inj h4).symm
    · rw [smP, if_neg h0] at h4
      exact h4
theorem SpI.zl {p : Nat → Int × Int} {v f k : Nat} {t s S : Int} (h : SpI p v f k t s S) (hv : v ≤ 5000) : zl t ≤ 200 ∧ zl s ≤ 200 ∧ k ≤ 600 := by
  obtain ⟨h1, h2, h3, h4⟩ := h
  have x1 := h1.zl
  have x2 := h2.zl
  omega
theorem smP_abs {p : Nat → Int × Int} {v : Nat} (hg : GdP p) : ∀ (f k : Nat) (t s S : Int), SpI p v f k t s S → AbP S (v + 600)
  | f, k, t, s, S, h => by
    obtain ⟨g, rfl, hk, _, h1, h2⟩ := h.step hg
    by_cases h0 : stP p k t = 0
    · rw [h1 h0]
      exact h.2.1.up (by omega)
    · exact smP_abs hg g _ _ _ _ (h2 h0)
theorem sp_first {p : Nat → Int × Int} {v : Nat} {S : Int} (h : smP p 600 0 (2 ^ v) 0 = some S) : SpI p v 600 0 (2 ^ v) 0 S := ⟨(tm_one v).abs.1, AbP.zero _, rfl, h⟩
theorem tnP_good {n sg : Int} (h : (n, sg) = (5, 1) ∨ (n, sg) = (239, 1) ∨ (n, sg) = (26, -1) ∨ (n, sg) = (4801, -1) ∨ (n, sg) = (8749, -1)) : GdP (tnP n sg) := fun k hk => by
  unfold tnP
  rcases h with h | h | h | h | h <;> obtain ⟨rfl, rfl⟩ := Prod.mk.inj h <;> split <;> simp only <;> omega
/-- The ends at the precision k of a sum in units of 2^-(k + 32). -/
def loC (T : Int) : Int := (T - 262144) / 4294967296
def hiC (T : Int) : Int := cdv (T + 262144) 4294967296
/-- The floor of the product of an integer and a fraction. -/
theorem cut_st (p : Nat → Int × Int) (k : Nat) (t : Int) (h : 0 < (p k).2) : cutQ (Rat.divInt (t * (Rat.divInt (p k).1 (p k).2).num) (((1 : Nat) : Int) * ((Rat.divInt (p k).1 (p k).2).den : Int))) 0 = stP p k t := by
  obtain ⟨d, hd⟩ : ∃ d : Nat, (p k).2 = (d : Int) := ⟨(p k).2.toNat, by omega⟩
  have e : Rat.divInt (t * (Rat.divInt (p k).1 (p k).2).num) (((1 : Nat) : Int) * ((Rat.divInt (p k).1 (p k).2).den : Int)) = Rat.divInt (t * (p k).1) (d : Int) := by
    rw [← Rat.divInt_mul_divInt, Rat.num_divInt_den, hd, ← Int.mul_one (d : Int), Int.mul_comm (d : Int), ← Rat.divInt_mul_divInt, Int.one_mul]
    rfl
  unfold stP
  rw [e, cut_eq _ d (by omega) 0, hd]
  simp

set_option maxHeartbeats 4000000 in
theorem dshift_any (m e k : Int) (vx : Value) (w : World) (hx : IsD w vx m e) (lm : zl m ≤ 20000) (he : -1000000 ≤ e ∧ e ≤ 1000000) (hk : -65536 ≤ k ∧ k ≤ 65536) (hT : Tab w) :
    Calls Tryz.prog 115 #[vx, .int .i64 k] w (RetDE w (mkM m (e + k)) (mkE m (e + k)) (mkR m (e + k))) := by
  obtain ⟨A, c, rfl, hz, hn⟩ := hx.form
  have L0 := (Lq.mk0 w).z hz
  obtain ⟨s, hs⟩ : ∃ s, e + k = s := ⟨_, rfl⟩
  have hw : IntKind.i64.wrap (e + k) = s := by rw [← hs, IntKind.wrap_i64]; omega
  have hw0 := fun W => within_any k 65536 W (by omega) (by omega)
  have hin : (decide (-65536 ≤ k) && decide (k ≤ 65536)) = true := by rw [decide_eq_true hk.1, decide_eq_true hk.2]; rfl
  rw [hin] at hw0
  have HW := Lib.hid hw0
  have HM0 := fun v W h (hW : Below w.heap.size w W) => dmake_any m s v W h (by omega) (hT.mono hW)
  rw [hs]
  generalize mkM m s = M at *
  generalize mkE m s = E at *
  generalize mkR m s = R at *
  have HM := Lib.hid HM0
  clear HM0 hw0 hin hs hx hz hn lm he hk hT
  go_enter Tryz.func115, Tryz.ntmps115
  go_wp2_with fail
  have L := ((L0.varD (w.heap.size) (by simp) (ng m) A (zl m) c e).varD (w.heap.size + 1) (by simp) false none 0 0 0)
  have c00 := L.b0.c30
  have f00 := L.b0.fr 0
  have c01 := L.b0.c31
  have f01 := L.b0.fr 1
  have c02 := L.b0.c32
  have f02 := L.b0.fr 2
  have c10 := L.tl.b0.c30
  have f10 := L.tl.b0.fr 0
  have c11 := L.tl.b0.c31
  have f11 := L.tl.b0.fr 1
  have c12 := L.tl.b0.c32
  have f12 := L.tl.b0.fr 2
  (try go_wp2_with fail)
  refine (HW.out _).mono ?_
  rintro e9 w' ⟨rfl, rfl⟩
  (try go_wp2_with fail)
  refine (HM.out _ _ (L.getZ (v := .agg #[.bool (ng m), .slice A (zl m) c]) (by simp)) L.below).mono ?_
  rintro e w1 ⟨v8, rfl, id, be⟩
  clear c00 f00 c01 f01 c02 f02 c10 f10 c11 f11 c12 f12
  obtain ⟨A9, c9, rfl, _, in9⟩ := id.form
  replace L := (L.step be).n in9
  clear be in9 id
  have c00 := L.b0.c30
  have f00 := L.b0.fr 0
  have c01 := L.b0.c31
  have f01 := L.b0.fr 1
  have c02 := L.b0.c32
  have f02 := L.b0.fr 2
  have c10 := L.tl.b0.c30
  have c11 := L.tl.b0.c31
  have c12 := L.tl.b0.c32
  (try go_wp2_with fail)
  have LP := L.putD (by omega) (by first | (simp; done) | (simp; omega)) (ng M) A9 (zl M) c9 (E)
  have k0 := LP.b0.c30
  have k1 := LP.b0.c31
  have k2 := LP.b0.c32
  unfold put3 at k0 k1 k2
  exact bodyPost_ret (v := .tuple #[.agg #[.bool (ng M), .slice A9 (zl M) c9, .int .i64 (E)], .int .i64 R]) (by simp [results, Tryz.results115, go_sem, k0, k1, k2]) rfl ⟨_, rfl, isD_n LP.hn, LP.below⟩
set_option maxHeartbeats 4000000 in
theorem i10width_any (m e n f : Int) (vx : Value) (w : World) (hx : IsI w vx m e n f) (lm : zl m ≤ 1000) (ln : zl n ≤ 1000) (he : -20000 ≤ e ∧ e ≤ 20000) (hf : -20000 ≤ f ∧ f ≤ 20000) (hT : Tab w) :
    Calls Tryz.prog 41 #[vx] w (RetDE w (mkM (addS n f (-m) e) (min f e)) (mkE (addS n f (-m) e) (min f e)) (mkR (addS n f (-m) e) (min f e))) := by
  obtain ⟨A, c, B, d, rfl, hn1, hn2⟩ := hx.form
  have L0 := ((Lq.mk0 w).n hn2).n hn1
  have HM := Lib.hid (fun v u W h1 h2 (hW : Below w.heap.size w W) => dsub_any n f m e v u W h1 h2 (by omega) (by omega) (by omega) (by omega) (hT.mono hW))
  generalize mkM (addS n f (-m) e) (min f e) = M at *
  generalize mkE (addS n f (-m) e) (min f e) = E at *
  generalize mkR (addS n f (-m) e) (min f e) = R at *
  clear hx hn1 hn2 lm ln he hf hT
  go_enter Tryz.func41, Tryz.ntmps41
  go_wp2_with fail
  have L := ((L0.varI (w.heap.size) (by simp) (ng m) A (zl m) c e (ng n) B (zl n) d f).varD (w.heap.size + 1) (by simp) false none 0 0 0)
  have c00 := L.b0.c30
  have f00 := L.b0.fr 0
  have c01 := L.b0.c31
  have f01 := L.b0.fr 1
  have c02 := L.b0.c32
  have f02 := L.b0.fr 2
  have c10 := L.tl.b0.c60
  have c11 := L.tl.b0.c61
  have c12 := L.tl.b0.c62
  have c13 := L.tl.b0.c63
  have c14 := L.tl.b0.c64
  have c15 := L.tl.b0.c65
  (try go_wp2_with fail)
  refine (HM.out _ _ _ (isD_n (m := n) (e := f) (s := .slice B (zl n) d) (L.getN (v := .slice B (zl n) d) (x := (n).natAbs) (by simp))) (isD_n (m := m) (e := e) (s := .slice A (zl m) c) (L.getN (v := .slice A (zl m) c) (x := (m).natAbs) (by simp))) L.below).mono ?_
  rintro e w1 ⟨v8, rfl, id, be⟩
  clear c00 f00 c01 f01 c02 f02 c10 c11 c12 c13 c14 c15
  obtain ⟨A9, c9, rfl, _, in9⟩ := id.form
  replace L := (L.step be).n in9
  clear be in9 id
  have c00 := L.b0.c30
  have f00 := L.b0.fr 0
  have c01 := L.b0.c31
  have f01 := L.b0.fr 1
  have c02 := L.b0.c32
  have f02 := L.b0.fr 2
  have c10 := L.tl.b0.c60
  have c11 := L.tl.b0.c61
  have c12 := L.tl.b0.c62
  have c13 := L.tl.b0.c63
  have c14 := L.tl.b0.c64
  have c15 := L.tl.b0.c65
  (try go_wp2_with fail)
  have LP := L.putD (by omega) (by first | (simp; done) | (simp; omega)) (ng M) A9 (zl M) c9 (E)
  have k0 := LP.b0.c30
  have k1 := LP.b0.c31
  have k2 := LP.b0.c32
  unfold put3 at k0 k1 k2
  exact bodyPost_ret (v := .tuple #[.agg #[.bool (ng M), .slice A9 (zl M) c9, .int .i64 (E)], .int .i64 R]) (by simp [results, Tryz.results41, go_sem, k0, k1, k2]) rfl ⟨_, rfl, isD_n LP.hn, LP.below⟩
set_option maxHeartbeats 4000000 in
theorem cfrac_any (num den : Int) (w : World) (h1 : -4611686018427387904 ≤ num) (h2 : num ≤ 4611686018427387904) (hd : 0 < den) (hd2 : den ≤ 4611686018427387904) :
    Calls Tryz.prog 120 #[.int .i64 num, .int .i64 den] w (RetQ w (Rat.divInt num den)) := by
  have z1 := len_le2 (x := num.natAbs) (by omega)
  have z2 := len_le2 (x := den.natAbs) (by omega)
  have z3 := len_le2 (x := 1) (by omega)
  have g1 := fun W => pof_any num W (by omega) (by omega)
  have g2 := fun W => pof_any den W (by omega) (by omega)
  have g3 := fun v u W h k => pdiv_any num 1 den 1 v u W h k (show zl num ≤ 1000000 from Nat.le_trans z1 (by omega)) (by omega) (show zl den ≤ 1000000 from Nat.le_trans z2 (by omega)) (by omega) (by omega) (by omega)
  rw [show Rat.divInt (num * ((1 : Nat) : Int)) (((1 : Nat) : Int) * den) = Rat.divInt num den by rw [Int.natCast_one, Int.mul_one, Int.one_mul]] at g3
  unfold RetQ at g1 g2 ⊢
  simp only [Rat.num_intCast, Rat.den_intCast] at g1 g2
  generalize (Rat.divInt num den).num = a at *
  generalize (Rat.divInt num den).den = k at *
  have G1 := Lib.hid g1
  have G2 := Lib.hid g2
  have G3 := Lib.hid g3
  clear g1 g2 g3 z1 z2 z3
  go_enter Tryz.func120, Tryz.ntmps120
  have L := ((Lq.mk0 w).varQ (w.heap.size) (by simp) false none none 0 0 0 0)
  have c00 := L.b0.c30
  have f00 := L.b0.fr 0
  have c01 := L.b0.c31
  have f01 := L.b0.fr 1
  have c02 := L.b0.c32
  have f02 := L.b0.fr 2
  (try go_wp2_with fail)
  refine (G1.out _).mono ?_
  rintro e w1 ⟨vv, rfl, iq, be⟩
  clear c00 f00 c01 f01 c02 f02
  obtain ⟨A1, c1, B1, d1, rfl, _, ia, ib⟩ := iq.form
  replace L := ((L.step be).n ib).n ia
  clear be iq ia ib
  have c00 := L.b0.c30
  have f00 := L.b0.fr 0
  have c01 := L.b0.c31
  have f01 := L.b0.fr 1
  have c02 := L.b0.c32
  have f02 := L.b0.fr 2
  (try go_wp2_with fail)
  refine (G2.out _).mono ?_
  rintro e w2 ⟨vv, rfl, iq, be⟩
  clear c00 f00 c01 f01 c02 f02
  obtain ⟨A2, c2, B2, d2, rfl, _, ia, ib⟩ := iq.form
  replace L := ((L.step be).n ib).n ia
  clear be iq ia ib
  have c00 := L.b0.c30
  have f00 := L.b0.fr 0
  have c01 := L.b0.c31
  have f01 := L.b0.fr 1
  have c02 := L.b0.c32
  have f02 := L.b0.fr 2
  (try go_wp2_with fail)
  refine (G3.out _ _ _ ⟨.slice A1 (zl num) c1, .slice B1 (len 1) d1, rfl, L.getN (by simp), L.getN (by simp)⟩ ⟨.slice A2 (zl den) c2, .slice B2 (len 1) d2, rfl, L.getN (by simp), L.getN (by simp)⟩).mono ?_
  rintro e w3 ⟨vv, rfl, iq, be⟩
  clear c00 f00 c01 f01 c02 f02
  obtain ⟨A3, c3, B3, d3, rfl, _, ia, ib⟩ := iq.form
  replace L := ((L.step be).n ib).n ia
  clear be iq ia ib
  have hl9 := L.b0.lt
  have c00 := L.b0.c30
  have f00 := L.b0.fr 0
  have c01 := L.b0.c31
  have f01 := L.b0.fr 1
  have c02 := L.b0.c32
  have f02 := L.b0.fr 2
  have LN := L.varQ w3.heap.size rfl (ng a) A3 B3 (zl a) c3 (len k) d3
  have n0 := LN.b0.c30
  have n1 := LN.b0.c31
  have n2 := LN.b0.c32
  go_wp2_with fail
  clear c00 f00 c01 f01 c02 f02
  have LP0 := L.putQ (by omega) (by simp) (ng a) A3 B3 (zl a) c3 (len k) d3
  have LP := LP0.varQ _ rfl (ng a) A3 B3 (zl a) c3 (len k) d3
  have k0 := LP.tl.b0.c30
  have k1 := LP.tl.b0.c31
  have k2 := LP.tl.b0.c32
  unfold put3 at k0 k1 k2
  exact bodyPost_ret (v := .agg #[.bool (ng a), .slice A3 (zl a) c3, .slice B3 (len k) d3]) (by simp [results, Tryz.results120, go_sem, k0, k1, k2]) rfl ⟨_, rfl, ⟨_, _, rfl, LP.getN (by simp), LP.getN (by simp)⟩, LP.below⟩
set_option maxHeartbeats 4000000 in
theorem ctang_any (n sg : Int) (j : Nat) (w : World) (hn : 2 ≤ n) (hn2 : n ≤ 10000) (hs : sg = 1 ∨ sg = -1) (hj : j ≤ 1000) :
    Calls Tryz.prog 118 #[.int .i64 n, .int .i64 (j : Int), .int .i64 sg] w (RetQ w (Rat.divInt (tnP n sg j).1 (tnP n sg j).2)) := by
  have hnn : n * n ≤ 10000 * 10000 := Int.mul_le_mul hn2 hn2 (by omega) (by omega)
  have hnn2 : 2 * 2 ≤ n * n := Int.mul_le_mul hn hn (by omega) (by omega)
  obtain ⟨q, hq⟩ : ∃ q, n * n = q := ⟨_, rfl⟩
  obtain ⟨b, hb⟩ : ∃ b, q + sg = b := ⟨_, rfl⟩
  have w1 : IntKind.i64.wrap (n * n) = q := by rw [IntKind.wrap_i64]; omega
  have w2 : IntKind.i64.wrap (q + sg) = b := by rw [IntKind.wrap_i64]; omega
  have w3 : IntKind.i64.wrap (sg * 2) = sg * 2 := by rw [IntKind.wrap_i64]; omega
  obtain ⟨u, hu⟩ : ∃ u, sg * 2 * (j : Int) = u := ⟨_, rfl⟩
  have hub : -2000 ≤ u ∧ u ≤ 2000 := by rcases hs with rfl | rfl <;> omega
  have w4 : IntKind.i64.wrap (sg * 2 * (j : Int)) = u := by rw [IntKind.wrap_i64]; omega
  have w5 : IntKind.i64.wrap (2 * (j : Int)) = 2 * (j : Int) := by rw [IntKind.wrap_i64]; omega
  obtain ⟨m, hm⟩ : ∃ m : Int, 2 * (j : Int) + 1 = m := ⟨_, rfl⟩
  have w6 : IntKind.i64.wrap (2 * (j : Int) + 1) = m := by rw [IntKind.wrap_i64]; omega
  rw [hq] at hnn hnn2
  have hmb : m * b ≤ 2001 * 100000001 := Int.mul_le_mul (by omega) (by omega) (by omega) (by omega)
  have hmb2 : 1 * 3 ≤ m * b := Int.mul_le_mul (by omega) (by omega) (by omega) (by omega)
  obtain ⟨y, hy⟩ : ∃ y, m * b = y := ⟨_, rfl⟩
  rw [hy] at hmb hmb2
  have w7 : IntKind.i64.wrap (m * b) = y := by rw [IntKind.wrap_i64]; omega
  unfold tnP
  by_cases hj0 : j = 0
  · subst hj0
    rw [if_pos rfl]
    simp only
    rw [hq, hb]
    have g1 := fun W => cfrac_any n b W (by omega) (by omega) (by omega) (by omega)
    unfold RetQ at g1 ⊢
    generalize (Rat.divInt n b).num = a at *
    generalize (Rat.divInt n b).den = k at *
    have G1 := Lib.hid g1
    clear g1 hy hm hu hb hq hnn hnn2 hmb hmb2 w3 w4 w5 w6 w7 hub
    go_enter Tryz.func118, Tryz.ntmps118
    have L := ((Lq.mk0 w).varQ (w.heap.size) (by simp) false none none 0 0 0 0)
    have c00 := L.b0.c30
    have f00 := L.b0.fr 0
    have c01 := L.b0.c31
    have f01 := L.b0.fr 1
    have c02 := L.b0.c32
    have f02 := L.b0.fr 2
    (try go_wp2_with fail)
    refine (G1.out _).mono ?_
    rintro e w1 ⟨vv, rfl, iq, be⟩
    clear c00 f00 c01 f01 c02 f02
    obtain ⟨A9, c9, B9, d9, rfl, _, ia, ib⟩ := iq.form
    replace L := ((L.step be).n ib).n ia
    clear be iq ia ib
    have c00 := L.b0.c30
    have f00 := L.b0.fr 0
    have c01 := L.b0.c31
    have f01 := L.b0.fr 1
    have c02 := L.b0.c32
    have f02 := L.b0.fr 2
    (try go_wp2_with fail)
    have LP := L.putQ (by omega) (by first | (simp; done) | (simp; omega)) (ng (a)) A9 B9 (zl (a)) c9 (len (k)) d9
    have k0 := LP.b0.c30
    have k1 := LP.b0.c31
    have k2 := LP.b0.c32
    unfold put3 at k0 k1 k2
    exact bodyPost_ret (v := .agg #[.bool (ng (a)), .slice A9 (zl (a)) c9, .slice B9 (len (k)) d9]) (by simp [results, Tryz.results118, go_sem, k0, k1, k2]) rfl ⟨_, rfl, ⟨_, _, rfl, LP.getN (by simp), LP.getN (by simp)⟩, LP.below⟩
  · rw [if_neg hj0]
    simp only
    rw [hq, hb, hu, hm, hy]
    have q0 : ((j : Int) == 0) = false := by rw [beq_eq_false_iff_ne]; omega
    have g1 := fun W => cfrac_any u y W (by omega) (by omega) (by omega) (by omega)
    unfold RetQ at g1 ⊢
    generalize (Rat.divInt u y).num = a at *
    generalize (Rat.divInt u y).den = k at *
    have G1 := Lib.hid g1
    clear g1 hy hm hu hb hq hnn hnn2 hmb hmb2 hub
    go_enter Tryz.func118, Tryz.ntmps118
    have L := ((Lq.mk0 w).varQ (w.heap.size) (by simp) false none none 0 0 0 0)
    have c00 := L.b0.c30
    have f00 := L.b0.fr 0
    have c01 := L.b0.c31
    have f01 := L.b0.fr 1
    have c02 := L.b0.c32
    have f02 := L.b0.fr 2
    (try go_wp2_with fail)
    refine (G1.out _).mono ?_
    rintro e w1 ⟨vv, rfl, iq, be⟩
    clear c00 f00 c01 f01 c02 f02
    obtain ⟨A9, c9, B9, d9, rfl, _, ia, ib⟩ := iq.form
    replace L := ((L.step be).n ib).n ia
    clear be iq ia ib
    have c00 := L.b0.c30
    have f00 := L.b0.fr 0
    have c01 := L.b0.c31
    have f01 := L.b0.fr 1
    have c02 := L.b0.c32
    have f02 := L.b0.fr 2
    (try go_wp2_with fail)
    have LP := L.putQ (by omega) (by first | (simp; done) | (simp; omega)) (ng (a)) A9 B9 (zl (a)) c9 (len (k)) d9
    have k0 := LP.b0.c30
    have k1 := LP.b0.c31
    have k2 := LP.b0.c32
    unfold put3 at k0 k1 k2
    exact bodyPost_ret (v := .agg #[.bool (ng (a)), .slice A9 (zl (a)) c9, .slice B9 (len (k)) d9]) (by simp [results, Tryz.results118, go_sem, k0, k1, k2]) rfl ⟨_, rfl, ⟨_, _, rfl, LP.getN (by simp), LP.getN (by simp)⟩, LP.below⟩
set_option maxHeartbeats 4000000 in
theorem carc_any (n : Int) (j : Nat) (w : World) (hn : 2 ≤ n) (hn2 : n ≤ 10000) (hj : j ≤ 1000) :
    Calls Tryz.prog 62 #[.int .i64 n, .int .i64 (j : Int)] w (RetQ w (Rat.divInt (tnP n (1) j).1 (tnP n (1) j).2)) := by
  have g1 := fun W => ctang_any n (1) j W hn hn2 (by omega) hj
  unfold RetQ at g1 ⊢
  generalize (Rat.divInt (tnP n (1) j).1 (tnP n (1) j).2).num = a at *
  generalize (Rat.divInt (tnP n (1) j).1 (tnP n (1) j).2).den = k at *
  have G1 := Lib.hid g1
  clear g1
  go_enter Tryz.func62, Tryz.ntmps62
  have L := ((Lq.mk0 w).varQ (w.heap.size) (by simp) false none none 0 0 0 0)
  have c00 := L.b0.c30
  have f00 := L.b0.fr 0
  have c01 := L.b0.c31
  have f01 := L.b0.fr 1
  have c02 := L.b0.c32
  have f02 := L.b0.fr 2
  (try go_wp2_with fail)
  refine (G1.out _).mono ?_
  rintro e w1 ⟨vv, rfl, iq, be⟩
  clear c00 f00 c01 f01 c02 f02
  obtain ⟨A9, c9, B9, d9, rfl, _, ia, ib⟩ := iq.form
  replace L := ((L.step be).n ib).n ia
  clear be iq ia ib
  have c00 := L.b0.c30
  have f00 := L.b0.fr 0
  have c01 := L.b0.c31
  have f01 := L.b0.fr 1
  have c02 := L.b0.c32
  have f02 := L.b0.fr 2
  (try go_wp2_with fail)
  have LP := L.putQ (by omega) (by first | (simp; done) | (simp; omega)) (ng (a)) A9 B9 (zl (a)) c9 (len (k)) d9
  have k0 := LP.b0.c30
  have k1 := LP.b0.c31
  have k2 := LP.b0.c32
  unfold put3 at k0 k1 k2
  exact bodyPost_ret (v := .agg #[.bool (ng (a)), .slice A9 (zl (a)) c9, .slice B9 (len (k)) d9]) (by simp [results, Tryz.results62, go_sem, k0, k1, k2]) rfl ⟨_, rfl, ⟨_, _, rfl, LP.getN (by simp), LP.getN (by simp)⟩, LP.below⟩
def okW (p : Int) : Bool := decide (0 ≤ p) && decide (p ≤ 4224)
set_option maxHeartbeats 1000000 in
theorem cperm_any (p : Int) (w : World) :
    Calls Tryz.prog 38 #[.int .i64 p] w (fun e w' => e = .returned (.bool (okW p)) ∧ w = w') := by
  unfold okW
  by_cases q1 : 0 ≤ p
  · have b1 : decide (0 ≤ p) = true := decide_eq_true q1
    rw [b1, Bool.true_and]
    go_enter Tryz.func38, Tryz.ntmps38
    go_wp2_with fail
    go_ret
    exact ⟨rfl, rfl⟩
  · have b1 : decide (0 ≤ p) = false := decide_eq_false q1
    rw [b1, Bool.false_and]
    go_enter Tryz.func38, Tryz.ntmps38
    go_wp2_with fail
    go_ret
    exact ⟨rfl, rfl⟩

theorem mk_fits9 {m e : Int} (h : zl m ≤ 700) (h1 : -40000 ≤ e) (h2 : e ≤ 40000) : mkR m e = 0 := by
  unfold mkR
  rw [if_neg (by omega)]
  by_cases h0 : m = 0
  · rw [if_pos h0]
  · rw [if_neg h0]
    have ht := tz_le8 m.natAbs (by omega)
    have e1 : zl m = len m.natAbs := rfl
    have hb : blen (oddM m).natAbs ≤ 65536 := by
      have := blen_le_len (oddM m).natAbs
      have h3 := zl_odd m
      have e2 : zl (oddM m) = len (oddM m).natAbs := rfl
      omega
    have ho : bitB (oddM m).natAbs 0 = true := by
      obtain ⟨k, hk⟩ := tz_form (x := m.natAbs) (by omega)
      have hd : m.natAbs / 2 ^ tz m.natAbs = 2 * k + 1 := by
        have := Nat.mul_div_cancel_left (2 * k + 1) (Nat.pow_pos (n := tz m.natAbs) (show 0 < 2 by omega))
        rwa [← hk] at this
      unfold bitB
      rw [oddM_abs, hd, Nat.pow_zero, Nat.div_one]
      exact decide_eq_true (by omega)
    have hf : fits8 (oddM m) (oddE m e) = true := by
      unfold fits8 oddE
      rw [decide_eq_true hb, decide_eq_true (by omega), decide_eq_true (by omega), ho]
      rfl
    rw [hf]
    rfl
theorem mk_uniq {a e b f : Int} (h1 : mkR a e = 0) (h2 : mkR b f = 0) (h : dq a e = dq b f) : mkM a e = mkM b f ∧ mkE a e = mkE b f :=
  dv_uniq (mk_ok h1) (mk_ok h2) (by rw [dq_mk h1, dq_mk h2, h])
theorem mkE_at {x y : Int} {k : Nat} (h : mkR x y = 0) (hz : zl x ≤ k) : mkE x y = 0 ∨ (y ≤ mkE x y ∧ mkE x y ≤ y + 32 * (k : Int)) := by
  unfold mkE
  by_cases h0 : x = 0
  · rw [if_pos h0]; exact Or.inl rfl
  · rw [if_neg h0, if_pos h]
    refine Or.inr ?_
    have ht := tz_le8 x.natAbs (by omega)
    have e1 : zl x = len x.natAbs := rfl
    unfold oddE
    omega
theorem nf {t : Int} {v : Nat} (h : AbP t v) (hv : v ≤ 6000) : mkR t 0 = 0 ∧ zl (mkM t 0) ≤ 200 ∧ 0 ≤ mkE t 0 ∧ mkE t 0 ≤ 6400 ∧ mkM t 0 * 2 ^ (mkE t 0).toNat = t ∧ dq (mkM t 0) (mkE t 0) = dq t 0 := by
  have hz := h.zl
  have hr : mkR t 0 = 0 := mk_fits2 (by omega) (by omega) (by omega)
  have z1 := zl_mk t 0
  have z2 := mkE_at hr (show zl t ≤ 190 by omega)
  refine ⟨hr, by omega, by omega, by omega, ?_, dq_mk hr⟩
  unfold mkM mkE
  rw [if_pos hr, if_pos hr]
  by_cases h0 : t = 0
  · subst h0; rw [oddM_zero]; simp
  · rw [if_neg h0, show (oddE t 0).toNat = tz t.natAbs from by unfold oddE; omega, odd_form]
theorem nf_zero {t : Int} {v : Nat} (h : AbP t v) (hv : v ≤ 6000) : mkM t 0 = 0 ↔ t = 0 := by
  obtain ⟨_, _, _, _, h5, _⟩ := nf h hv
  constructor
  · intro e
    rw [e, Int.zero_mul] at h5
    exact h5.symm
  · rintro rfl
    have hr := (nf (AbP.zero 0) (by omega)).1
    unfold mkM
    rw [if_pos hr]
    exact oddM_zero
theorem nf00 : mkM 0 0 = 0 ∧ mkE 0 0 = 0 := by
  refine ⟨(nf_zero (AbP.zero 0) (by omega)).2 rfl, ?_⟩
  unfold mkE
  rw [if_pos rfl]
/-- Such a dyadic's fraction. -/
theorem nf_rat {t : Int} {v : Nat} (h : AbP t v) (hv : v ≤ 6000) : mkM t 0 * 2 ^ (mkE t 0).toNat = t ∧ 2 ^ (-(mkE t 0)).toNat = 1 := by
  obtain ⟨_, _, h3, _, h5, _⟩ := nf h hv
  refine ⟨h5, ?_⟩
  rw [show (-(mkE t 0)).toNat = 0 by omega, Nat.pow_zero]
theorem nf_sign {t : Int} {v : Nat} (h : AbP t v) (hv : v ≤ 6000) : (cmpI (mkM t 0) 0 == 0) = decide (t = 0) := by
  have := nf_zero h hv
  unfold cmpI
  (repeat' split) <;> simp <;> omega
theorem nf_add {s t : Int} {v : Nat} (h1 : AbP s v) (h2 : AbP t v) (hv : v ≤ 5000) :
    mkR (addS (mkM s 0) (mkE s 0) (mkM t 0) (mkE t 0)) (min (mkE s 0) (mkE t 0)) = 0 ∧ mkM (addS (mkM s 0) (mkE s 0) (mkM t 0) (mkE t 0)) (min (mkE s 0) (mkE t 0)) = mkM (s + t) 0 ∧ mkE (addS (mkM s 0) (mkE s 0) (mkM t 0) (mkE t 0)) (min (mkE s 0) (mkE t 0)) = mkE (s + t) 0 := by
  obtain ⟨a1, a2, a3, a4, _, a6⟩ := nf h1 (by omega)
  obtain ⟨b1, b2, b3, b4, _, b6⟩ := nf h2 (by omega)
  have hz := zl_addS (mkM s 0) (mkE s 0) (mkM t 0) (mkE t 0) 6400 (by omega) (by omega)
  have hr : mkR (addS (mkM s 0) (mkE s 0) (mkM t 0) (mkE t 0)) (min (mkE s 0) (mkE t 0)) = 0 := mk_fits9 (by omega) (by omega) (by omega)
  obtain ⟨c1, _⟩ := nf (h1.add h2) (by omega)
  exact ⟨hr, mk_uniq hr c1 (by rw [dq_add, a6, b6, dq_int, dq_int, dq_int, Rat.intCast_add])⟩
theorem nf_sub {s t : Int} {v : Nat} (h1 : AbP s v) (h2 : AbP t v) (hv : v ≤ 5000) :
    mkR (addS (mkM s 0) (mkE s 0) (-(mkM t 0)) (mkE t 0)) (min (mkE s 0) (mkE t 0)) = 0 ∧ mkM (addS (mkM s 0) (mkE s 0) (-(mkM t 0)) (mkE t 0)) (min (mkE s 0) (mkE t 0)) = mkM (s - t) 0 ∧ mkE (addS (mkM s 0) (mkE s 0) (-(mkM t 0)) (mkE t 0)) (min (mkE s 0) (mkE t 0)) = mkE (s - t) 0 := by
  obtain ⟨a1, a2, a3, a4, _, a6⟩ := nf h1 (by omega)
  obtain ⟨b1, b2, b3, b4, _, b6⟩ := nf h2 (by omega)
  have hn := zl_neg (mkM t 0)
  have hz := zl_addS (mkM s 0) (mkE s 0) (-(mkM t 0)) (mkE t 0) 6400 (by omega) (by omega)
  have hr : mkR (addS (mkM s 0) (mkE s 0) (-(mkM t 0)) (mkE t 0)) (min (mkE s 0) (mkE t 0)) = 0 := mk_fits9 (by omega) (by omega) (by omega)
  obtain ⟨c1, _⟩ := nf (h1.add h2.neg) (by omega)
  rw [← Int.sub_eq_add_neg] at c1
  exact ⟨hr, mk_uniq hr c1 (by rw [dq_add, dq_neg, a6, b6, dq_int, dq_int, dq_int, Rat.intCast_sub, Rat.sub_eq_add_neg])⟩
theorem nf_mul {s t : Int} {v u : Nat} (h1 : AbP s v) (h2 : AbP t u) (hv : v + u ≤ 5000) :
    mkR (mkM s 0 * mkM t 0) (mkE s 0 + mkE t 0) = 0 ∧ mkM (mkM s 0 * mkM t 0) (mkE s 0 + mkE t 0) = mkM (s * t) 0 ∧ mkE (mkM s 0 * mkM t 0) (mkE s 0 + mkE t 0) = mkE (s * t) 0 := by
  obtain ⟨a1, a2, a3, a4, _, a6⟩ := nf h1 (by omega)
  obtain ⟨b1, b2, b3, b4, _, b6⟩ := nf h2 (by omega)
  have e1 := mkE_at a1 (k := 200) (by have := h1.zl; omega)
  have e2 := mkE_at b1 (k := 200) (by have := h2.zl; omega)
  obtain ⟨c1, _⟩ := nf (h1.mul h2) (by omega)
  have hz : zl (mkM s 0 * mkM t 0) ≤ 400 := by
    have := zl_mul (mkM s 0) (mkM t 0)
    omega
  have hr : mkR (mkM s 0 * mkM t 0) (mkE s 0 + mkE t 0) = 0 := mk_fits9 (by omega) (by omega) (by omega)
  exact ⟨hr, mk_uniq hr c1 (by rw [dq_mul, a6, b6, dq_int, dq_int, dq_int, Rat.intCast_mul])⟩
theorem dq_shift (s k : Int) : dq s k = dq s 0 * dq 1 k := by
  have := dq_mul s 0 1 k
  rw [Int.mul_one, Int.zero_add] at this
  exact this
theorem nf_dq {t k : Int} {v : Nat} (h : AbP t v) (hv : v ≤ 6000) : dq (mkM t 0) (mkE t 0 + k) = dq t k := by
  obtain ⟨_, _, _, _, _, h6⟩ := nf h hv
  have := dq_mul (mkM t 0) (mkE t 0) 1 k
  rw [Int.mul_one, h6, ← dq_shift] at this
  exact this
/-- Shifts up: of one. -/
theorem nf_up {k : Nat} (hk : k ≤ 4000) : mkR (mkM 1 0) (mkE 1 0 + (k : Int)) = 0 ∧ mkM (mkM 1 0) (mkE 1 0 + (k : Int)) = mkM (2 ^ k) 0 ∧ mkE (mkM 1 0) (mkE 1 0 + (k : Int)) = mkE (2 ^ k) 0 := by
  have h1 : AbP 1 0 := by unfold AbP; decide
  obtain ⟨a1, a2, a3, a4, _⟩ := nf h1 (by omega)
  obtain ⟨c1, _⟩ := nf ((tm_one k).abs.1) (by omega)
  have hr : mkR (mkM 1 0) (mkE 1 0 + (k : Int)) = 0 := mk_fits9 (by omega) (by omega) (by omega)
  refine ⟨hr, mk_uniq hr c1 ?_⟩
  rw [nf_dq h1 (by omega)]
  refine dq_eq (F := 0) ?_ (by omega) (by omega)
  rw [show ((k : Int) - 0).toNat = k by omega, show ((0 : Int) - 0).toNat = 0 by omega]
  simp
/-- Shifts down. -/
theorem nf_down {s : Int} {v k : Nat} (h : AbP s v) (hv : v ≤ 5000) (hk : k ≤ 5000) : mkR (mkM s 0) (mkE s 0 + -(k : Int)) = 0 ∧ Dv (mkM (mkM s 0) (mkE s 0 + -(k : Int))) (mkE (mkM s 0) (mkE s 0 + -(k : Int))) ∧ dq (mkM (mkM s 0) (mkE s 0 + -(k : Int))) (mkE (mkM s 0) (mkE s 0 + -(k : Int))) = dq s (-(k : Int)) ∧
    zl (mkM (mkM s 0) (mkE s 0 + -(k : Int))) ≤ 200 ∧ -20000 ≤ mkE (mkM s 0) (mkE s 0 + -(k : Int)) ∧ mkE (mkM s 0) (mkE s 0 + -(k : Int)) ≤ 20000 := by
  obtain ⟨a1, a2, a3, a4, _, a6⟩ := nf h (by omega)
  have e1 := mkE_at a1 (k := 160) (by have := h.zl; omega)
  have hr : mkR (mkM s 0) (mkE s 0 + -(k : Int)) = 0 := mk_fits9 (by omega) (by omega) (by omega)
  have z1 := zl_mk (mkM s 0) (mkE s 0 + -(k : Int))
  have e2 := mkE_at hr a2
  exact ⟨hr, mk_ok hr, by rw [dq_mk hr, nf_dq h (by omega)], by omega, by omega, by omega⟩

theorem plainP (a : Int) (F : Nat) (n : Int) : Plain #[.int .i64 a, .func (.func F) #[] #[], .int .i64 n] := fun j x => by
  match j with
  | 0 => simp
  | 1 => simp
  | 2 => simp
  | j + 3 => simp
theorem Lq.varP {w0 w : World} {ns : List (Value × Nat)} {zs : List (Value × Int)} {qs : List (Value × Int × Nat)} {bs : List (Nat × TypeId × Array Value)} (h : Lq w0 w ns zs qs bs) (g : Nat) (hg : g = w.heap.size) (a : Int) (F : Nat) (n : Int) : Lq w0 (w.alloc (.cells #[.int .i64 a, .func (.func F) #[] #[], .int .i64 n] 87)) ns zs qs ((g, 87, #[.int .i64 a, .func (.func F) #[] #[], .int .i64 n]) :: bs) := h.var g hg _ _ (plainP _ _ _)
theorem Lq.subs {w0 w : World} {ns : List (Value × Nat)} {zs : List (Value × Int)} {qs : List (Value × Int × Nat)} {bs : List (Nat × TypeId × Array Value)} (h : Lq w0 w ns zs qs bs) {ns' : List (Value × Nat)} {bs' : List (Nat × TypeId × Array Value)} (h1 : ∀ p ∈ ns', p ∈ ns) (h2 : ∀ b ∈ bs', b ∈ bs) : Lq w0 w ns' [] [] bs' :=
  ⟨h.below, fun x hx => h.ns x (h1 x hx), fun _ x => (by cases x), fun _ x => (by cases x), fun x hx => h.bs x (h2 x hx)⟩

set_option maxHeartbeats 16000000 in
theorem csum_any (F : Nat) (hen : ∀ args w, (callFunc F args).run Tryz.prog w = .ok (.enter F args) w) (p : Nat → Int × Int) (n fac S : Int) (v : Nat) (w : World) (hg : GdP p) (hS : smP p 600 0 (2 ^ v) 0 = some S) (hfac : AbP fac 10) (hv : v ≤ 3900) (hT : Tab w) (hf : ∀ (j : Nat) W, j ≤ 1000 → Calls Tryz.prog F #[.int .i64 n, .int .i64 (j : Int)] W (RetQ W (Rat.divInt (p j).1 (p j).2))) :
    Calls Tryz.prog 114 #[.agg #[.int .i64 fac, .func (.func F) #[] #[], .int .i64 n], .int .i64 (v : Int)] w (RetD8 w (mkM (S * fac) 0) (mkE (S * fac) 0)) := by
  have hfb : -1024 ≤ fac ∧ fac ≤ 1024 := by
    have e10 : (2 : Nat) ^ 10 = 1024 := by decide
    unfold AbP at hfac
    rw [e10] at hfac
    omega
  have hSb := smP_abs hg 600 0 _ _ _ (sp_first hS)
  have HR0 := sp_first hS
  have HT := Lib.hid (fun W (hW : Below w.heap.size w W) => hT.mono hW)
  have g1 := fun W (hW : Below w.heap.size w W) => dof_any 1 W (by omega) (by omega) (hT.mono hW)
  obtain ⟨u1, u2, u3⟩ := nf_up (k := v) (by omega)
  obtain ⟨_, y2, y3, y4, _, _⟩ := nf (t := 1) (v := 0) (by unfold AbP; decide) (by omega)
  have g2 := fun x W h (hW : Below w.heap.size w W) => dshift_any (mkM 1 0) (mkE 1 0) (v : Int) x W h (by omega) (by omega) (by omega) (hT.mono hW)
  rw [u1, u2, u3] at g2
  have g3 := fun W (hW : Below w.heap.size w W) => dof_any fac W (by omega) (by omega) (hT.mono hW)
  obtain ⟨f1, f2, f3, f4, _, _⟩ := nf hfac (by omega)
  obtain ⟨s1, s2, s3, s4, _, _⟩ := nf hSb (by omega)
  obtain ⟨m1, m2, m3⟩ := nf_mul hSb hfac (by omega)
  have g4 := fun x y W h k (hW : Below w.heap.size w W) => dmul_any (mkM S 0) (mkE S 0) (mkM fac 0) (mkE fac 0) x y W h k (by omega) (by omega) (by omega) (by omega) (hT.mono hW)
  rw [m1, m2, m3] at g4
  clear hfb hfac u1 u2 u3 y2 y3 y4 f1 f2 f3 f4 s1 s2 s3 s4 m1 m2 m3 hS hSb
  generalize mkM (S * fac) 0 = Mr at *
  generalize mkE (S * fac) 0 = Er at *
  generalize mkM fac 0 = Mf at *
  generalize mkE fac 0 = Ef at *
  generalize mkM 1 0 = M1 at *
  generalize mkE 1 0 = E1 at *
  generalize hP : (2 : Int) ^ v = P at *
  obtain ⟨M, hM⟩ : ∃ z, mkM P 0 = z := ⟨_, rfl⟩
  obtain ⟨E, hE⟩ : ∃ z, mkE P 0 = z := ⟨_, rfl⟩
  rw [hM, hE] at g2
  have HR := Lib.hid (And.intro HR0 (And.intro (And.intro hM hE) nf00))
  have G1 := Lib.hid g1
  have G2 := Lib.hid g2
  have G3 := Lib.hid g3
  have G4 := Lib.hid g4
  have HF := Lib.hid hf
  have HG := Lib.hid hg
  have HV := Lib.hid hv
  clear g1 g2 g3 g4 hf hg hv HR0 hM hE hP hT
  go_enter Tryz.func114, Tryz.ntmps114
  have L := ((((Lq.mk0 w).varP (w.heap.size) (by simp) fac F n).varD (w.heap.size + 1) (by simp) false none 0 0 0).varD (w.heap.size + 2) (by simp) false none 0 0 0)
  have c00 := L.b0.c30
  have f00 := L.b0.fr 0
  have c01 := L.b0.c31
  have f01 := L.b0.fr 1
  have c02 := L.b0.c32
  have f02 := L.b0.fr 2
  (try go_wp2_with fail)
  refine (G1.out _ L.below).mono ?_
  rintro e w1 ⟨v1, rfl, id, be⟩
  clear c00 f00 c01 f01 c02 f02
  replace L := L.step be
  clear be
  (try go_wp2_with fail)
  refine (G2.out _ _ id L.below).mono ?_
  rintro e w2 ⟨v2, rfl, iz, be⟩
  obtain ⟨A1, c1, rfl, _, in9⟩ := iz.form
  replace L := (L.step be).n in9
  clear be iz in9 id
  have hl9 := L.b0.lt
  replace L := L.varD w2.heap.size rfl (ng M) A1 (zl M) c1 E
  have c00 := L.b0.c30
  have c01 := L.b0.c31
  have c02 := L.b0.c32
  go_wp2_with fail
  clear c00 c01 c02
  obtain ⟨gt, hgt⟩ : ∃ g9, w2.heap.size = g9 := ⟨_, rfl⟩
  rw [hgt] at L hl9 ⊢
  clear hgt
  clear G1 G2
  go_loopw [8] (fun i wr => ∃ (f k : Nat) (t s M E N K : Int) (A1 A2 : Option Addr) (c1 c2 : Nat), i = .int .i64 (k : Int) ∧ Lq w wr [(.slice A1 (zl M) c1, M.natAbs), (.slice A2 (zl N) c2, N.natAbs)] [] [] [(gt, 29, #[.bool (ng M), .slice A1 (zl M) c1, .int .i64 E]), (w.heap.size + 2, 29, #[.bool (ng N), .slice A2 (zl N) c2, .int .i64 K]), (w.heap.size, 87, #[.int .i64 fac, .func (.func F) #[] #[], .int .i64 n]), (w.heap.size + 1, 29, #[.bool false, .slice none 0 0, .int .i64 0])] ∧ Hid (SpI p v f k t s S ∧ (mkM t 0 = M ∧ mkE t 0 = E) ∧ mkM s 0 = N ∧ mkE s 0 = K)) (fun i _ => 700 - (intOf i).toNat)
  case atStart =>
    have zz : zl 0 = 0 := len_zero
    have LN := L.n (v := .slice none 0 0) (x := 0) (IsN.zero _)
    refine ⟨600, 0, P, 0, M, E, 0, 0, A1, none, c1, 0, by go_num, ?_, HR⟩
    rw [zz]
    exact LN.subs (by simp) (by simp [ng])
  case round =>
    clear L HR
    obtain ⟨f, k, t, s, M, E, N, K, A1, A2, c1, c2, rfl, L, HR⟩ := hrel
    obtain ⟨hI, ⟨hM, hE⟩, hN, hK⟩ := HR.out
    have hv := HV.out
    obtain ⟨ht, hs, hfk, _⟩ := id hI
    obtain ⟨_, z2, z3, z4, _, _⟩ := nf ht (by omega)
    obtain ⟨q1, q2⟩ := nf_rat ht (by omega)
    obtain ⟨g, rfl, hk, ht2, n1, n2⟩ := hI.step HG.out
    obtain ⟨r1, r2, r3, r4, _, _⟩ := nf ht2 (by omega)
    have r5 := nf_sign ht2 (by omega)
    obtain ⟨p1, p2, p3⟩ := HG.out k (by omega)
    have zt := ht.zl
    have hb9 := L.tl.b0.lt
    have hc9 := L.b0.lt
    have o1 := fun x W h => drat_any (mkM t 0) (mkE t 0) x W h (by omega) (by omega)
    rw [q1, q2] at o1
    have o2 := fun W => HF.out k W (by omega)
    unfold RetQ at o2
    have cs := cut_st p k t p2
    obtain ⟨d, hd⟩ : ∃ d : Nat, (p k).2 = (d : Int) := ⟨(p k).2.toNat, by omega⟩
    have ds := divInt_small (p k).1 d 2 (show zl (p k).1 ≤ 2 from len_le2 (by omega)) (len_le2 (by omega)) (by omega)
    rw [← hd] at ds
    have dp := den_pos' (Rat.divInt (p k).1 (p k).2)
    generalize (Rat.divInt (p k).1 (p k).2).num = a at *
    generalize (Rat.divInt (p k).1 (p k).2).den = b at *
    have o3 := fun x y W h j => pmul_any t 1 a b x y W h j (by omega) (show len 1 ≤ 1000000 from Nat.le_trans (len_le1 (by omega)) (by omega)) (by omega) (by omega) (by omega) dp
    unfold RetQ at o3
    have sz := divInt_small (t * a) (1 * b) 600 (by have := zl_mul t a; omega) (by rw [Nat.one_mul]; omega) (by omega)
    rw [Int.natCast_mul] at sz
    have xp := den_pos' (Rat.divInt (t * a) (((1 : Nat) : Int) * (b : Int)))
    have xe := rat_self (Rat.divInt (t * a) (((1 : Nat) : Int) * (b : Int)))
    generalize Rat.divInt (t * a) (((1 : Nat) : Int) * (b : Int)) = X at *
    have o4 := fun x W h (hW : Below w.heap.size w W) => gfloorR_any X.num X.den 0 x W h (by omega) (by omega) xp (by omega) (by omega) (HT.out W hW)
    obtain ⟨e1, e2, e3⟩ := g_yes (p := 0) (by decide) (cutQ (Rat.divInt X.num (X.den : Int)) 0)
    rw [e1, e2, e3, xe, cs, Int.neg_zero, r1] at o4
    have o5 := fun x W h => dsign_any (mkM (stP p k t) 0) (mkE (stP p k t) 0) x W h (by omega)
    have hsu := ht2.up (show v ≤ v + k by omega)
    obtain ⟨a1, a2, a3⟩ := nf_add hs hsu (by omega)
    obtain ⟨_, b2, b3, b4, _, _⟩ := nf hs (by omega)
    have o6 := fun x y W h j (hW : Below w.heap.size w W) => dadd_any (mkM s 0) (mkE s 0) (mkM (stP p k t) 0) (mkE (stP p k t) 0) x y W h j (by omega) (by omega) (by omega) (by omega) (HT.out W hW)
    rw [a1, a2, a3] at o6
    have w3 : IntKind.i64.wrap ((k : Int) + 1) = (k : Int) + 1 := by rw [IntKind.wrap_i64]; omega
    clear q1 q2 z2 z3 z4 p1 p2 p3 hd ds cs sz xp xe e1 e2 e3 r1 r2 r3 r4 a1 a2 a3 b2 b3 b4 hsu zt dp hI hv ht hs ht2
    obtain ⟨t2, ht2⟩ : ∃ z, stP p k t = z := ⟨_, rfl⟩
    rw [ht2] at n1 n2 r5 o4 o5 o6
    obtain ⟨s2, hs2⟩ : ∃ z, s + t2 = z := ⟨_, rfl⟩
    rw [hs2] at n2 o6
    rw [hM, hE] at o1
    rw [hN, hK] at o6
    obtain ⟨M2, hM2⟩ : ∃ z, mkM t2 0 = z := ⟨_, rfl⟩
    obtain ⟨E2, hE2⟩ : ∃ z, mkE t2 0 = z := ⟨_, rfl⟩
    obtain ⟨N2, hN2⟩ : ∃ z, mkM s2 0 = z := ⟨_, rfl⟩
    obtain ⟨K2, hK2⟩ : ∃ z, mkE s2 0 = z := ⟨_, rfl⟩
    rw [hM2, hE2] at o4 o5 o6
    rw [hM2] at r5
    rw [hN2, hK2] at o6
    generalize X.num = xa at *
    generalize X.den = xd at *
    obtain ⟨sg9, hsg9⟩ : ∃ z, cmpI M2 0 = z := ⟨_, rfl⟩
    rw [hsg9] at o5 r5
    have O1 := Lib.hid o1
    have O2 := Lib.hid o2
    have O3 := Lib.hid o3
    have O4 := Lib.hid o4
    have O5 := Lib.hid o5
    have O6 := Lib.hid o6
    have HQ := Lib.hid (And.intro (And.intro hN hK) (And.intro n1 n2))
    have HM2 := Lib.hid (And.intro (And.intro hM2 hE2) (And.intro hN2 hK2))
    clear o1 o2 o3 o4 o5 o6 hsg9 n1 n2 hM hE hN hK hM2 hE2 hN2 hK2 hs2 ht2 HR hfk X
    have nb : w.heap.size + 2 ≠ gt := by omega
    (try go_wp2_with fail)
    replace L := L.drew
    have cel00 := L.b0.c30
    have f00 := L.b0.fr 0
    have cel01 := L.b0.c31
    have f01 := L.b0.fr 1
    have cel02 := L.b0.c32
    have f02 := L.b0.fr 2
    have cel20 := L.tl.tl.b0.c30
    have cel21 := L.tl.tl.b0.c31
    have cel22 := L.tl.tl.b0.c32
    go_cut [30] from 18 to 30 (fun s9 wx => ∃ (A3 : Option Addr) (c3 : Nat), Lq w wx [(.slice A3 (zl M2) c3, M2.natAbs), (.slice A2 (zl N) c2, N.natAbs)] [] [] [(gt, 29, #[.bool (ng M2), .slice A3 (zl M2) c3, .int .i64 E2]), (w.heap.size + 2, 29, #[.bool (ng N), .slice A2 (zl N) c2, .int .i64 K]), (w.heap.size, 87, #[.int .i64 fac, .func (.func F) #[] #[], .int .i64 n]), (w.heap.size + 1, 29, #[.bool false, .slice none 0 0, .int .i64 0])])
    case first =>
      go_region_with (first | (go_at_call 164; (with_reducible refine (O1.out _ _ ?_ ).mono ?_); (· (refine isD_n (L.getN ?_); (repeat (first | (with_reducible exact List.mem_cons_self) | apply List.mem_cons_of_mem)))); rintro e9 wh ⟨vh, rfl, iq, be⟩; obtain ⟨Af, cf, Bf, df, rfl, _, _, _⟩ := iq.form; replace L := (L.step be).q iq; clear be iq; (try (have xx00 := L.b0.c30; have yy00 := L.b0.fr 0; have xx01 := L.b0.c31; have yy01 := L.b0.fr 1; have xx02 := L.b0.c32; have yy02 := L.b0.fr 2)); (try (have xx20 := L.tl.tl.b0.c30; have xx21 := L.tl.tl.b0.c31; have xx22 := L.tl.tl.b0.c32))) | ((with_reducible refine (O2.out _ ).mono ?_); rintro e9 wh ⟨vh, rfl, iq, be⟩; obtain ⟨Af, cf, Bf, df, rfl, _, _, _⟩ := iq.form; replace L := (L.step be).q iq; clear be iq; (try (have xx00 := L.b0.c30; have yy00 := L.b0.fr 0; have xx01 := L.b0.c31; have yy01 := L.b0.fr 1; have xx02 := L.b0.c32; have yy02 := L.b0.fr 2)); (try (have xx20 := L.tl.tl.b0.c30; have xx21 := L.tl.tl.b0.c31; have xx22 := L.tl.tl.b0.c32))) | (go_at_call 163; (with_reducible refine (O3.out _ _ _ ?_ ?_ ).mono ?_); (· (refine L.getQ ?_; (repeat (first | (with_reducible exact List.mem_cons_self) | apply List.mem_cons_of_mem)))); (· (refine L.getQ ?_; (repeat (first | (with_reducible exact List.mem_cons_self) | apply List.mem_cons_of_mem)))); rintro e9 wh ⟨vh, rfl, iq, be⟩; obtain ⟨Af, cf, Bf, df, rfl, _, _, _⟩ := iq.form; replace L := (L.step be).q iq; clear be iq; (try (have xx00 := L.b0.c30; have yy00 := L.b0.fr 0; have xx01 := L.b0.c31; have yy01 := L.b0.fr 1; have xx02 := L.b0.c32; have yy02 := L.b0.fr 2)); (try (have xx20 := L.tl.tl.b0.c30; have xx21 := L.tl.tl.b0.c31; have xx22 := L.tl.tl.b0.c32))) | (go_at_call 157; (with_reducible refine (O4.out _ _ ?_ ?_ ).mono ?_); (· (refine L.getQ ?_; (repeat (first | (with_reducible exact List.mem_cons_self) | apply List.mem_cons_of_mem)))); (· exact L.below); rintro e9 wh ⟨vh, rfl, id, be⟩; obtain ⟨A3, c3, rfl, _, in9⟩ := id.form; replace L := (L.step be).n in9; clear be id in9; (try (have xx00 := L.b0.c30; have yy00 := L.b0.fr 0; have xx01 := L.b0.c31; have yy01 := L.b0.fr 1; have xx02 := L.b0.c32; have yy02 := L.b0.fr 2)); (try (have xx20 := L.tl.tl.b0.c30; have xx21 := L.tl.tl.b0.c31; have xx22 := L.tl.tl.b0.c32))))
      all_goals
        have P := L.putD (by omega) (by first | (simp; done) | (simp; omega)) (ng M2) A3 (zl M2) c3 E2
        unfold put3 at P
        go_wp2_with fail
        go_meet
        exact ⟨A3, c3, P.subs (by simp) (by simp)⟩
    case rest =>
      clear L
      obtain ⟨A3, c3, L⟩ := hcut
      have hgt := L.b0.lt
      have cel00 := L.b0.c30
      have f00 := L.b0.fr 0
      have cel01 := L.b0.c31
      have f01 := L.b0.fr 1
      have cel02 := L.b0.c32
      have f02 := L.b0.fr 2
      (try go_wp2_with fail)
      refine (O5.out _ _ (isD_n (m := M2) (e := E2) (s := .slice A3 (zl M2) c3) (L.getN (by simp)))).mono ?_
      rintro e w12 ⟨rfl, be⟩
      clear cel00 f00 cel01 f01 cel02 f02
      replace L := L.step be
      clear be
      by_cases h0 : t2 = 0
      · have r6 : (sg9 == 0) = true := r5.trans (decide_eq_true h0)
        obtain rfl := HQ.out.2.1 h0
        have G4' := G4.out
        rw [HQ.out.1.1, HQ.out.1.2] at G4'
        have G5 := Lib.hid G4'
        clear G4' G4 r5 HQ HM2 O1 O2 O3 O4 O5 O6
        replace L := L.swap
        have cel00 := L.b0.c30
        have f00 := L.b0.fr 0
        have cel01 := L.b0.c31
        have f01 := L.b0.fr 1
        have cel02 := L.b0.c32
        have f02 := L.b0.fr 2
        have cel20 := L.tl.tl.b0.c30
        have cel21 := L.tl.tl.b0.c31
        have cel22 := L.tl.tl.b0.c32
        (try go_wp2_with fail)
        replace L := L.drew
        clear cel00 f00 cel01 f01 cel02 f02 cel20 cel21 cel22
        have cel00 := L.b0.c30
        have f00 := L.b0.fr 0
        have cel01 := L.b0.c31
        have f01 := L.b0.fr 1
        have cel02 := L.b0.c32
        have f02 := L.b0.fr 2
        have cel20 := L.tl.tl.b0.c30
        have cel21 := L.tl.tl.b0.c31
        have cel22 := L.tl.tl.b0.c32
        go_region_with (first | (go_at_call 116; (with_reducible refine (G3.out _ ?_ ).mono ?_); (· exact L.below); rintro e9 wh ⟨vh, rfl, id, be⟩; obtain ⟨A4, c4, rfl, _, in9⟩ := id.form; replace L := (L.step be).n in9; clear be id in9; (try (have xx00 := L.b0.c30; have yy00 := L.b0.fr 0; have xx01 := L.b0.c31; have yy01 := L.b0.fr 1; have xx02 := L.b0.c32; have yy02 := L.b0.fr 2)); (try (have xx20 := L.tl.tl.b0.c30; have xx21 := L.tl.tl.b0.c31; have xx22 := L.tl.tl.b0.c32))) | (go_at_call 52; (with_reducible refine (G5.out _ _ _ ?_ ?_ ?_ ).mono ?_); (· (refine isD_n (L.getN ?_); (repeat (first | (with_reducible exact List.mem_cons_self) | apply List.mem_cons_of_mem)))); (· (refine isD_n (L.getN ?_); (repeat (first | (with_reducible exact List.mem_cons_self) | apply List.mem_cons_of_mem)))); (· exact L.below); rintro e9 wh ⟨vh, rfl, id, be⟩; obtain ⟨A5, c5, rfl, _, in9⟩ := id.form; replace L := (L.step be).n in9; clear be id in9; (try (have xx00 := L.b0.c30; have yy00 := L.b0.fr 0; have xx01 := L.b0.c31; have yy01 := L.b0.fr 1; have xx02 := L.b0.c32; have yy02 := L.b0.fr 2)); (try (have xx20 := L.tl.tl.b0.c30; have xx21 := L.tl.tl.b0.c31; have xx22 := L.tl.tl.b0.c32))))
        all_goals
          clear cel00 f00 cel01 f01 cel02 f02 cel20 cel21 cel22
          have P := L.putD (by omega) (by first | (simp; done) | (simp; omega)) (ng Mr) A5 (zl Mr) c5 Er
          have p0 := P.b0.c30
          have p1 := P.b0.c31
          have p2 := P.b0.c32
          have q0 := P.tl.tl.tl.b0.c30
          have q1 := P.tl.tl.tl.b0.c31
          have q2 := P.tl.tl.tl.b0.c32
          have q3 := P.tl.tl.tl.b0.fr 0
          have q4 := P.tl.tl.tl.b0.fr 1
          have q5 := P.tl.tl.tl.b0.fr 2
          unfold put3 at p0 p1 p2 q0 q1 q2 q3 q4 q5 P
          go_wp2_with fail
          replace L := P.pull2.swap.pull2.pull2
          clear P p0 p1 p2 q0 q1 q2 q3 q4 q5
          have L4 : Lq w _ _ _ _ _ := L.subs (ns' := [(.slice A5 (zl Mr) c5, Mr.natAbs)]) (bs' := [(w.heap.size + 1, 29, #[.bool false, .slice none 0 0, .int .i64 0])]) (by simp) (by simp)
          clear L
          have L := L4
          have LP := L.putD (by omega) (by first | (simp; done) | (simp; omega)) (ng Mr) A5 (zl Mr) c5 (Er)
          have k0 := LP.b0.c30
          have k1 := LP.b0.c31
          have k2 := LP.b0.c32
          unfold put3 at k0 k1 k2
          exact bodyPost_ret (v := .agg #[.bool (ng Mr), .slice A5 (zl Mr) c5, .int .i64 (Er)]) (by simp [results, Tryz.results114, go_sem, k0, k1, k2]) rfl ⟨_, rfl, isD_n LP.hn, LP.below⟩
      · have r6 : (sg9 == 0) = false := r5.trans (decide_eq_false h0)
        have HI := Lib.hid (HQ.out.2.2 h0)
        clear r5 HQ O1 O2 O3 O4 O5 G3 G4
        replace L := L.swap
        have cel00 := L.b0.c30
        have f00 := L.b0.fr 0
        have cel01 := L.b0.c31
        have f01 := L.b0.fr 1
        have cel02 := L.b0.c32
        have f02 := L.b0.fr 2
        have cel10 := L.tl.b0.c30
        have cel11 := L.tl.b0.c31
        have cel12 := L.tl.b0.c32
        go_wp2_with fail
        refine (O6.out _ _ _ (isD_n (m := N) (e := K) (s := .slice A2 (zl N) c2) (L.getN (by simp))) (isD_n (m := M2) (e := E2) (s := .slice A3 (zl M2) c3) (L.getN (by simp))) L.below).mono ?_
        rintro e w13 ⟨vv, rfl, id, be⟩
        clear cel00 f00 cel01 f01 cel02 f02 cel10 cel11 cel12
        obtain ⟨A6, c6, rfl, _, in9⟩ := id.form
        replace L := (L.step be).n in9
        clear be id in9
        have cel00 := L.b0.c30
        have f00 := L.b0.fr 0
        have cel01 := L.b0.c31
        have f01 := L.b0.fr 1
        have cel02 := L.b0.c32
        have f02 := L.b0.fr 2
        replace L := L.putD (by omega) (by first | (simp; done) | (simp; omega)) (ng N2) A6 (zl N2) c6 K2
        unfold put3 at L
        go_wp2_with fail
        go_roundw
        case rel => exact ⟨g, k + 1, t2, s2, M2, E2, N2, K2, A3, A6, c3, c6, by go_num, L.subs (by simp) (by simp), Lib.hid ⟨HI.out, HM2.out⟩⟩
        case measure => simp [intOf]; omega

set_option maxHeartbeats 8000000 in
theorem i10out_yes (m e n f p : Int) (vx : Value) (w : World) (hx : IsI w vx m e n f) (lm : zl m ≤ 1000) (ln : zl n ≤ 1000) (he : -20000 ≤ e ∧ e ≤ 20000) (hf : -20000 ≤ f ∧ f ≤ 20000) (hp1 : -9223372036854775808 ≤ p) (hp2 : p ≤ 9223372036854775807) (hp : permB p = true) (r1 : mkR (cutQ (dq m e) p) (-p) = 0) (r2 : mkR (-(cutQ (-(dq n f)) p)) (-p) = 0) (hT : Tab w) :
    Calls Tryz.prog 117 #[vx, .int .i64 p] w (RetIE w (mkM (cutQ (dq m e) p) (-p)) (mkE (cutQ (dq m e) p) (-p)) (mkM (-(cutQ (-(dq n f)) p)) (-p)) (mkE (-(cutQ (-(dq n f)) p)) (-p)) 0) := by
  obtain ⟨A, c, B, d, rfl, hn1, hn2⟩ := hx.form
  have L0 := ((Lq.mk0 w).n hn2).n hn1
  have h1 := fun v W h (hW : Below w.heap.size w W) => gfloor_any m e p v W h (by omega) (by omega) hp1 hp2 (hT.mono hW)
  have h2 := fun v W h (hW : Below w.heap.size w W) => gceil_any n f p v W h (by omega) (by omega) hp1 hp2 (hT.mono hW)
  rw [(g_yes hp (cutQ (dq m e) p)).1, (g_yes hp (cutQ (dq m e) p)).2.1, (g_yes hp (cutQ (dq m e) p)).2.2] at h1
  rw [(g_yes hp (-(cutQ (-(dq n f)) p))).1, (g_yes hp (-(cutQ (-(dq n f)) p))).2.1, (g_yes hp (-(cutQ (-(dq n f)) p))).2.2] at h2
  rw [r1] at h1
  rw [r2] at h2
  generalize mkM (cutQ (dq m e) p) (-p) = M at *
  generalize mkE (cutQ (dq m e) p) (-p) = E at *
  generalize mkM (-(cutQ (-(dq n f)) p)) (-p) = N at *
  generalize mkE (-(cutQ (-(dq n f)) p)) (-p) = G at *
  have H1 := Lib.hid h1
  have H2 := Lib.hid h2
  clear h1 h2 hx hn1 hn2 lm ln he hf hp1 hp2 hp hT r1 r2
  go_enter Tryz.func117, Tryz.ntmps117
  go_wp2_with fail
  have L := ((L0.varI (w.heap.size) (by simp) (ng m) A (zl m) c e (ng n) B (zl n) d f).varI (w.heap.size + 1) (by simp) false none 0 0 0 false none 0 0 0)
  have c00 := L.b0.c60
  have f00 := L.b0.fr 0
  have c01 := L.b0.c61
  have f01 := L.b0.fr 1
  have c02 := L.b0.c62
  have f02 := L.b0.fr 2
  have c03 := L.b0.c63
  have f03 := L.b0.fr 3
  have c04 := L.b0.c64
  have f04 := L.b0.fr 4
  have c05 := L.b0.c65
  have f05 := L.b0.fr 5
  have c10 := L.tl.b0.c60
  have c11 := L.tl.b0.c61
  have c12 := L.tl.b0.c62
  have c13 := L.tl.b0.c63
  have c14 := L.tl.b0.c64
  have c15 := L.tl.b0.c65
  (try go_wp2_with fail)
  refine (H1.out _ _ (isD_n (m := m) (e := e) (s := .slice A (zl m) c) (L.getN (v := .slice A (zl m) c) (x := (m).natAbs) (by simp))) L.below).mono ?_
  rintro e w1 ⟨vv, rfl, id, be⟩
  clear c00 f00 c01 f01 c02 f02 c03 f03 c04 f04 c05 f05 c10 c11 c12 c13 c14 c15
  obtain ⟨A8, c8, rfl, _, in9⟩ := id.form
  replace L := (L.step be).n in9
  clear be id in9
  have hlg := L.b0.lt
  replace L := L.varD w1.heap.size rfl (ng M) A8 (zl M) c8 E
  have c00 := L.b0.c30
  have c01 := L.b0.c31
  have c02 := L.b0.c32
  have c20 := L.tl.tl.b0.c60
  have c21 := L.tl.tl.b0.c61
  have c22 := L.tl.tl.b0.c62
  have c23 := L.tl.tl.b0.c63
  have c24 := L.tl.tl.b0.c64
  have c25 := L.tl.tl.b0.c65
  go_wp2_with fail
  obtain ⟨g, hg⟩ : ∃ g, w1.heap.size = g := ⟨_, rfl⟩
  rw [hg] at L hlg c00 c01 c02 ⊢
  clear hg
  refine (H2.out _ _ (isD_n (m := n) (e := f) (s := .slice B (zl n) d) (L.getN (v := .slice B (zl n) d) (x := (n).natAbs) (by simp))) L.below).mono ?_
  rintro e w2 ⟨vv, rfl, id, be⟩
  clear c00 c01 c02 c20 c21 c22 c23 c24 c25
  obtain ⟨A9, c9, rfl, _, in9⟩ := id.form
  replace L := (L.step be).n in9
  clear be id in9
  have hlk9 := L.b0.lt
  replace L := L.varD w2.heap.size rfl (ng N) A9 (zl N) c9 G
  have n1 : w.heap.size + 1 ≠ g := by omega
  have n2 : w.heap.size + 1 ≠ w2.heap.size := by omega
  replace L := L.pull2
  have c00 := L.b0.c60
  have f00 := L.b0.fr 0
  have c01 := L.b0.c61
  have f01 := L.b0.fr 1
  have c02 := L.b0.c62
  have f02 := L.b0.fr 2
  have c03 := L.b0.c63
  have f03 := L.b0.fr 3
  have c04 := L.b0.c64
  have f04 := L.b0.fr 4
  have c05 := L.b0.c65
  have f05 := L.b0.fr 5
  have c10 := L.tl.b0.c30
  have c11 := L.tl.b0.c31
  have c12 := L.tl.b0.c32
  have c20 := L.tl.tl.b0.c30
  have c21 := L.tl.tl.b0.c31
  have c22 := L.tl.tl.b0.c32
  go_wp2_with fail
  have LP := L.putI (by omega) (by simp [n1, n2, Ne.symm n1, Ne.symm n2]) (ng M) A8 (zl M) c8 E (ng N) A9 (zl N) c9 G
  have k0 := LP.b0.c60
  have k1 := LP.b0.c61
  have k2 := LP.b0.c62
  have k3 := LP.b0.c63
  have k4 := LP.b0.c64
  have k5 := LP.b0.c65
  unfold put6 at k0 k1 k2 k3 k4 k5
  exact bodyPost_ret (v := .tuple #[.agg #[.bool (ng M), .slice A8 (zl M) c8, .int .i64 E, .bool (ng N), .slice A9 (zl N) c9, .int .i64 G], .int .i64 0]) (by simp [results, Tryz.results117, go_sem, k0, k1, k2, k3, k4, k5]) rfl ⟨_, rfl, isI_n (LP.getN (by simp)) (LP.getN (by simp)), LP.below⟩


end Go.Proofs.YtfnklkdbieikeaaGreatDoor
