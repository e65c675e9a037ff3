/- Joined: AtM, AtN, AtO, AtA, RdW, RdPA, LnA, LnE, AtB, AtC, AtD (what the law leans on). -/
import Derived.Test.YtmgbjldogggpcaaGreatDoorBaseIR
import Derived.Test.YtmgbjldogggpcaaGreatDoorBaseJR
import Derived.Test.YtmgbjldogggpcaaGreatDoorBaseDR
import Derived.Test.YtmgbjldogggpcaaGreatDoorBaseMR
import Derived.Test.YtmgbjldogggpcaaGreatDoorBaseVR
import Derived.Test.YtmgbjldogggpcaaGreatDoorBaseGR
import Derived.Test.YtmgbjldogggpcaaGreatDoorBaseSR
import Derived.Test.YtmgbjldogggpcaaGreatDoorRefGrBR
import Derived.Test.YtmgbjldogggpcaaGreatDoorGrPCR
import Derived.Test.YtmgbjldogggpcaaGreatDoorBaseUR
import Derived.Test.YtmgbjldogggpcaaGreatDoorJR1
import Derived.Deep.Cut
import Derived.Deep.CutRange
import Derived.Deep.DrawnRows
import Derived.Deep.RegionHeld3
namespace Go.Proofs.YtmgbjldogggpcaaGreatDoor
set_option maxHeartbeats 64000000
open Go.RowKit
set_option linter.unusedVariables false
set_option linter.unusedSimpArgs false
set_option maxRecDepth 100000
attribute [local go_sem ↓] Go.wp_at_zero Go.wp_at_succ
def kd (d : Rat) : Rat:=(d - d⁻¹) / 2
theorem kd_eq {d : Rat} (h : 0 < d) : kd d * (2 * d) = d * d - 1:=by
 have:=Rat.inv_mul_cancel d (Rat.ne_of_gt h)
 unfold kd
 generalize d⁻¹ = i at *
 grind
theorem lt_of_mul9 {a b c : Rat} (hc : 0 < c) (h : a * c < b * c) : a < b:=by
 by_cases h2 : a < b
 ·exact h2
 ·have:=Rat.mul_le_mul_of_nonneg_right (show b ≤ a by grind) (Rat.le_of_lt hc)
  grind
theorem kd_lt {d e : Rat} (hd : 0 < d) (h : d < e) : kd d < kd e:=by
 have he : 0 < e:=by grind
 have h1:=kd_eq hd
 have h2:=kd_eq he
 have p : 0 < 2 * d * e:=by have:=Rat.mul_pos hd he; grind
 refine lt_of_mul9 p ?_
 have e1 : kd d * (2 * d * e) = (d * d - 1) * e:=by grind
 have e2 : kd e * (2 * d * e) = (e * e - 1) * d:=by grind
 rw [e1, e2]
 have:=Rat.mul_pos (Rat.mul_pos hd he) (show 0 < e - d by grind)
 grind
def cs (c d : Rat) : Rat:=(c * d - 1) / (c + d)
theorem cs_eq {c d : Rat} (h : 0 < c + d) : cs c d * (c + d) = c * d - 1:=Rat.div_mul_cancel (Rat.ne_of_gt h)
theorem cs_mono {c d c' d' : Rat} (h : 0 < c + d) (h1 : c ≤ c') (h2 : d ≤ d') : cs c d ≤ cs c' d':=by
 have h' : 0 < c' + d':=by grind
 have h3 : 0 < c' + d:=by grind
 have sq : ∀ x : Rat, 0 ≤ x * x:=fun x => by
  by_cases h3 : 0 ≤ x
  ·exact Rat.mul_nonneg h3 h3
  ·have:=Rat.mul_nonneg (show 0 ≤ -x by grind) (show 0 ≤ -x by grind)
   grind
 have e1:=cs_eq h
 have e2:=cs_eq h3
 have e3:=cs_eq h'
 have s1 : cs c d ≤ cs c' d:=by
  refine le_of_mul (Rat.mul_pos h h3) ?_
  have q1 : cs c d * ((c + d) * (c' + d)) = (c * d - 1) * (c' + d):=by grind
  have q2 : cs c' d * ((c + d) * (c' + d)) = (c' * d - 1) * (c + d):=by grind
  rw [q1, q2]
  have:=Rat.mul_nonneg (show 0 ≤ c' - c by grind) (show 0 ≤ d * d + 1 by have:=sq d; grind)
  grind
 have s2 : cs c' d ≤ cs c' d':=by
  refine le_of_mul (Rat.mul_pos h3 h') ?_
  have q1 : cs c' d * ((c' + d) * (c' + d')) = (c' * d - 1) * (c' + d'):=by grind
  have q2 : cs c' d' * ((c' + d) * (c' + d')) = (c' * d' - 1) * (c' + d):=by grind
  rw [q1, q2]
  have:=Rat.mul_nonneg (show 0 ≤ d' - d by grind) (show 0 ≤ c' * c' + 1 by have:=sq c'; grind)
  grind
 exact Rat.le_trans s1 s2
theorem kd_sum {d e : Rat} (hd : 0 < d) (he : 0 < e) : (kd d + kd e) * (2 * (d * e)) = (d + e) * (d * e - 1):=by
 have h1:=kd_eq hd
 have h2:=kd_eq he
 have e1 : kd d * (2 * (d * e)) = (d * d - 1) * e:=by grind
 have e2 : kd e * (2 * (d * e)) = (e * e - 1) * d:=by grind
 grind
theorem cs_pos {d e : Rat} (hd : 0 < d) (he : 0 < e) (h : 1 < d * e) : 0 < cs d e:=by
 refine lt_of_mul9 (c:=d + e) (by grind) ?_
 rw [cs_eq (by grind)]
 grind
theorem kd_cs {d e : Rat} (hd : 0 < d) (he : 0 < e) (h : 1 < d * e) : kd (cs d e) = cs (kd d) (kd e):=by
 have hp:=cs_pos hd he h
 have h1:=kd_eq hd
 have h2:=kd_eq he
 have h3:=kd_eq hp
 have h4:=kd_sum hd he
 have hde:=Rat.mul_pos hd he
 have hs : 0 < kd d + kd e:=by
  refine lt_of_mul9 (c:=2 * (d * e)) (by grind) ?_
  rw [h4, Rat.zero_mul]
  exact Rat.mul_pos (by grind) (by grind)
 have h5:=cs_eq hs
 have h6:=cs_eq (show 0 < d + e by grind)
 generalize cs d e = s at *
 generalize cs (kd d) (kd e) = r at *
 generalize kd s = k at *
 generalize kd d = p at *
 generalize kd e = q at *
 have hm : 0 < 2 * s * (p + q) * (4 * (d * e)) * (d + e) * (d + e):=Rat.mul_pos (Rat.mul_pos (Rat.mul_pos (Rat.mul_pos (by grind) hs) (by grind)) (by grind)) (by grind)
 have eq : k * (2 * s * (p + q) * (4 * (d * e)) * (d + e) * (d + e)) = r * (2 * s * (p + q) * (4 * (d * e)) * (d + e) * (d + e)):=by
  have a1 : k * (2 * s * (p + q) * (4 * (d * e)) * (d + e) * (d + e)) = (k * (2 * s)) * (2 * ((p + q) * (2 * (d * e)))) * (d + e) * (d + e):=by grind
  have a2 : r * (2 * s * (p + q) * (4 * (d * e)) * (d + e) * (d + e)) = 2 * (r * (p + q)) * (4 * (d * e)) * (s * (d + e)) * (d + e):=by grind
  have a3 : (s * s - 1) * (d + e) * (d + e) = (d * e - 1) * (d * e - 1) - (d + e) * (d + e):=by
   have : s * s * (d + e) * (d + e) = (s * (d + e)) * (s * (d + e)):=by grind
   grind
  have a4 : (p * q - 1) * (4 * (d * e)) = (d * d - 1) * (e * e - 1) - 4 * (d * e):=by
   have : p * q * (4 * (d * e)) = (p * (2 * d)) * (q * (2 * e)):=by grind
   grind
  rw [a1, a2, h3, h4, h5, h6]
  have b1 : (s * s - 1) * (2 * ((d + e) * (d * e - 1))) * (d + e) * (d + e) = ((s * s - 1) * (d + e) * (d + e)) * (2 * ((d + e) * (d * e - 1))):=by grind
  have b2 : 2 * (p * q - 1) * (4 * (d * e)) * (d * e - 1) * (d + e) = ((p * q - 1) * (4 * (d * e))) * (2 * ((d + e) * (d * e - 1))):=by grind
  rw [b1, b2, a3, a4]
  grind
 have l1 : k ≤ r:=le_of_mul hm (by rw [eq]; exact Rat.le_refl)
 have l2 : r ≤ k:=le_of_mul hm (by rw [eq]; exact Rat.le_refl)
 exact Rat.le_antisymm l1 l2
def GL : Nat → Rat → Rat → Prop
 | 0, a, c => c * a ≤ 1
 | n + 1, a, c => ∃ d, 0 < d ∧ GL n (a / 2) d ∧ c ≤ kd d
def GU : Nat → Rat → Rat → Prop
 | 0, b, c => 1 - b * b ≤ c * b
 | n + 1, b, c => ∃ d, 0 < d ∧ GU n (b / 2) d ∧ kd d ≤ c
theorem GL.mono {n : Nat} {a c c' : Rat} (h : GL n a c) (ha : 0 ≤ a) (hc : c' ≤ c) : GL n a c':=by
 cases n with
 | zero => exact Rat.le_trans (Rat.mul_le_mul_of_nonneg_right hc ha) h
 | succ n => obtain ⟨d, h1, h2, h3⟩:=h; exact ⟨d, h1, h2, Rat.le_trans hc h3⟩
theorem GU.mono {n : Nat} {b c c' : Rat} (h : GU n b c) (hb : 0 ≤ b) (hc : c ≤ c') : GU n b c':=by
 cases n with
 | zero => exact Rat.le_trans h (Rat.mul_le_mul_of_nonneg_right hc hb)
 | succ n => obtain ⟨d, h1, h2, h3⟩:=h; exact ⟨d, h1, h2, Rat.le_trans h3 hc⟩
theorem GL.up {n : Nat} : ∀ {a a' c : Rat}, GL n a c → 0 ≤ a' → a' ≤ a → 0 ≤ c → GL n a' c:=by
 induction n with
 | zero => intro a a' c h h0 ha hc; exact Rat.le_trans (Rat.mul_le_mul_of_nonneg_left ha hc) h
 | succ n ih => intro a a' c h h0 ha hc; obtain ⟨d, h1, h2, h3⟩:=h; exact ⟨d, h1, ih h2 (by grind) (by grind) (Rat.le_of_lt h1), h3⟩
theorem gl_gu {n : Nat} : ∀ {a b c c' : Rat}, GL n a c → GU n b c' → 0 < b → b < a → a * (b * b) * (hn n * hn n) < a - b → c < c':=by
  induction n with
  | zero =>
    intro a b c c' h1 h2 hb hab hs
    rw [show hn 0 = 1 from rfl] at hs
    have ha : 0 < a:=by grind
    refine lt_of_mul9 (Rat.mul_pos ha hb) ?_
    have e1 : c * (a * b) ≤ b:=by
      have:=Rat.mul_le_mul_of_nonneg_right h1 (Rat.le_of_lt hb)
      grind
    have e2 : a - a * (b * b) ≤ c' * (a * b):=by
      have:=Rat.mul_le_mul_of_nonneg_left h2 (Rat.le_of_lt ha)
      grind
    grind
  | succ n ih =>
    intro a b c c' h1 h2 hb hab hs
    obtain ⟨d, d0, d1, d2⟩:=h1
    obtain ⟨e, e0, e1, e2⟩:=h2
    have:=ih d1 e1 (by grind) (by grind) (by rw [hn_succ] at hs; grind)
    have:=kd_lt d0 this
    grind
theorem GL.add {n : Nat} : ∀ {a b c d : Rat}, 0 < a → 0 < b → GL n a c → GL n b d → 0 < c + d → GL n (a + b) (cs c d):=by
  induction n with
  | zero =>
    intro a b c d ha hb h1 h2 hs
    show cs c d * (a + b) ≤ 1
    have e:=cs_eq hs
    refine le_of_mul (c:=(c + d)) hs ?_
    have q1 : cs c d * (a + b) * (c + d) = (c * d - 1) * (a + b):=by grind
    rw [q1]
    have r1 : c * a ≤ 1:=h1
    have r2 : d * b ≤ 1:=h2
    by_cases hc : 0 ≤ c
    · by_cases hd : 0 ≤ d
      · have p1:=Rat.mul_le_mul_of_nonneg_right r1 hd
        have p2:=Rat.mul_le_mul_of_nonneg_right r2 hc
        grind
      · have p1:=Rat.mul_nonneg hc (show 0 ≤ -d by grind)
        have p2:=Rat.mul_nonneg p1 (show 0 ≤ a + b by grind)
        grind
    · have p1:=Rat.mul_nonneg (show 0 ≤ -c by grind) (show 0 ≤ d by grind)
      have p2:=Rat.mul_nonneg p1 (show 0 ≤ a + b by grind)
      grind
  | succ n ih =>
    intro a b c d ha hb h1 h2 hs
    obtain ⟨x, x0, x1, x2⟩:=h1
    obtain ⟨y, y0, y1, y2⟩:=h2
    have hk : 0 < kd x + kd y:=by grind
    have hxy:=Rat.mul_pos x0 y0
    have hp : 1 < x * y:=by
      have e:=kd_sum x0 y0
      have p:=Rat.mul_pos hk (show 0 < 2 * (x * y) by grind)
      rw [e] at p
      by_cases h : 1 < x * y
      · exact h
      · have:=Rat.mul_nonneg (show 0 ≤ x + y by grind) (show 0 ≤ 1 - x * y by grind)
        grind
    have:=ih (show 0 < a / 2 by grind) (show 0 < b / 2 by grind) x1 y1 (by grind)
    refine ⟨cs x y, cs_pos x0 y0 hp, ?_, ?_⟩
    · rw [show (a + b) / 2 = a / 2 + b / 2 by grind]; exact this
    · rw [kd_cs x0 y0 hp]; exact cs_mono hs x2 y2
theorem low_kd (T : Rat) : ∃ f, 0 < f ∧ f ≤ 1 ∧ kd f ≤ T:=by
 obtain ⟨u, hu0, hu⟩ : ∃ u : Rat, 0 ≤ u ∧ -u ≤ T:=by
  by_cases h : 0 ≤ T
  ·exact ⟨0, by grind, by grind⟩
  ·exact ⟨-T, by grind, by grind⟩
 have hp : 0 < 2 + 2 * u:=by grind
 have hi:=Rat.inv_mul_cancel (2 + 2 * u) (Rat.ne_of_gt hp)
 have hf : 0 < (2 + 2 * u)⁻¹:=Rat.inv_pos.2 hp
 have h1 : (2 + 2 * u)⁻¹ ≤ 1:=by
  refine le_of_mul hp ?_
  rw [hi]; grind
 refine ⟨(2 + 2 * u)⁻¹, hf, h1, ?_⟩
 unfold kd
 rw [Rat.inv_inv]
 grind
theorem GU.add {n : Nat} : ∀ {a b c d : Rat}, 0 < a → 0 < b → a * hn n ≤ 4 / 5 → b * hn n ≤ 4 / 5 → GU n a c → GU n b d → 0 < c + d → GU n (a + b) (cs c d):=by
  induction n with
  | zero =>
    intro a b c d ha hb ka kb h1 h2 hs
    rw [show hn 0 = 1 from rfl, Rat.mul_one] at ka kb
    show 1 - (a + b) * (a + b) ≤ cs c d * (a + b)
    have r1 : 1 - a * a ≤ c * a:=h1
    have r2 : 1 - b * b ≤ d * b:=h2
    have aa : a * a ≤ 16 / 25:=by
      have:=rmul_le ka ka (by grind) (by grind)
      grind
    have bb : b * b ≤ 16 / 25:=by
      have:=rmul_le kb kb (by grind) (by grind)
      grind
    have ab : a * b ≤ 16 / 25:=by
      have:=rmul_le ka kb (by grind) (by grind)
      grind
    have hab:=Rat.mul_pos ha hb
    obtain ⟨m, hm⟩ : ∃ m, m * a = 1 - a * a:=⟨(1 - a * a) / a, Rat.div_mul_cancel (Rat.ne_of_gt ha)⟩
    obtain ⟨k, hk⟩ : ∃ m, m * b = 1 - b * b:=⟨(1 - b * b) / b, Rat.div_mul_cancel (Rat.ne_of_gt hb)⟩
    have hmc : m ≤ c:=le_of_mul ha (by grind)
    have hkd : k ≤ d:=le_of_mul hb (by grind)
    have hm0 : 0 < m:=lt_of_mul9 ha (by grind)
    have hk0 : 0 < k:=lt_of_mul9 hb (by grind)
    have le:=cs_mono (show 0 < m + k by grind) hmc hkd
    refine Rat.le_trans ?_ (Rat.mul_le_mul_of_nonneg_right le (show 0 ≤ a + b by grind))
    have e:=cs_eq (show 0 < m + k by grind)
    generalize cs m k = r at *
    have e2 : r * ((m * a) * b + (k * b) * a) = (m * a) * (k * b) - a * b:=by
      have : r * ((m * a) * b + (k * b) * a) = r * (m + k) * (a * b):=by grind
      rw [this, e]; grind
    rw [hm, hk] at e2
    refine le_of_mul (c:=1 - a * b) (by grind) ?_
    have t1:=Rat.mul_nonneg (Rat.le_of_lt hab) (show 0 ≤ 2 - a * a - b * b - a * b by grind)
    have e3 : r * (a + b) * (1 - a * b) = r * ((1 - a * a) * b + (1 - b * b) * a):=by grind
    rw [e3, e2]
    clear e e2 e3 le hmc hkd hm hk r1 r2 h1 h2
    grind
  | succ n ih =>
    intro a b c d ha hb ka kb h1 h2 hs
    obtain ⟨x, x0, x1, x2⟩:=h1
    obtain ⟨y, y0, y1, y2⟩:=h2
    have hxy:=Rat.mul_pos x0 y0
    rw [hn_succ] at ka kb
    have hi:=ih (show 0 < a / 2 by grind) (show 0 < b / 2 by grind) (by grind) (by grind) x1 y1 (by grind)
    rw [show a / 2 + b / 2 = (a + b) / 2 by grind] at hi
    by_cases hp : 1 < x * y
    · have hk : 0 < kd x + kd y:=by
        refine lt_of_mul9 (c:=2 * (x * y)) (by grind) ?_
        rw [kd_sum x0 y0, Rat.zero_mul]
        exact Rat.mul_pos (by grind) (by grind)
      refine ⟨cs x y, cs_pos x0 y0 hp, hi, ?_⟩
      rw [kd_cs x0 y0 hp]; exact cs_mono hk x2 y2
    · obtain ⟨f, f0, _, f2⟩:=low_kd (cs c d)
      refine ⟨f, f0, hi.mono (by grind) ?_, f2⟩
      refine Rat.le_trans ?_ (Rat.le_of_lt f0)
      refine le_of_mul (c:=x + y) (by grind) ?_
      rw [cs_eq (show 0 < x + y by grind)]
      grind
def LoC (a c : Rat) : Prop:=∀ a', 0 < a' → a' < a → ∀ n, GL n a' c
def UpC (c b : Rat) : Prop:=0 ≤ b ∧ ∀ b', b < b' → ∃ N, ∀ n, N ≤ n → GU n b' c
theorem hn_lin (n : Nat) : ((n : Rat) + 1) * hn n ≤ 1:=by
  induction n with
  | zero => decide +kernel
  | succ n ih =>
    have e : ((n + 1 : Nat) : Rat) = (n : Rat) + 1:=by push_cast; rfl
    have h0:=hn_pos n
    have h1 : (0 : Rat) ≤ (n : Rat):=by exact_mod_cast Nat.zero_le n
    have:=Rat.mul_nonneg h1 (Rat.le_of_lt h0)
    rw [e, hn_succ]
    grind
theorem nat_over (x : Rat) : ∃ N : Nat, x < (N : Rat):=by
 refine ⟨x.ceil.toNat + 1, ?_⟩
 have h1:=Rat.le_ceil (x:=x)
 have h2 : (x.ceil : Rat) ≤ ((x.ceil.toNat : Int) : Rat):=Rat.intCast_le_intCast.2 (Int.self_le_toNat _)
 have e : ((x.ceil.toNat + 1 : Nat) : Rat) = (x.ceil.toNat : Rat) + 1:=by push_cast; rfl
 rw [e]
 rw [Rat.intCast_natCast] at h2
 grind
theorem hn_quick {x y : Rat} (hy : 0 < y) (hx : 0 ≤ x) : ∃ N, ∀ n, N ≤ n → x * hn n < y:=by
 obtain ⟨N, hN⟩:=nat_over (x / y)
 refine ⟨N, fun n hn => ?_⟩
 have e : x / y * y = x:=Rat.div_mul_cancel (Rat.ne_of_gt hy)
 have h1:=hn_lin n
 have h2 : (N : Rat) ≤ (n : Rat):=by exact_mod_cast hn
 have h0 : (0 : Rat) ≤ (n : Rat):=by exact_mod_cast Nat.zero_le n
 have h3:=Rat.mul_lt_mul_of_pos_right (show x / y < (n : Rat) + 1 by grind) hy
 rw [e] at h3
 have h4:=Rat.mul_le_mul_of_nonneg_left h1 hx
 refine lt_of_mul9 (c:=(n : Rat) + 1) (by grind) ?_
 grind
theorem LoC.mono {a a' c c' : Rat} (h : LoC a c) (ha : a' ≤ a) (hc : c' ≤ c) : LoC a' c':=fun x h1 h2 n => (h x h1 (by grind) n).mono (Rat.le_of_lt h1) hc
theorem UpC.mono {b b' c c' : Rat} (h : UpC c b) (hb : b ≤ b') (hc : c ≤ c') : UpC c' b':=⟨by have:=h.1; grind, fun x h1 => by
 obtain ⟨N, hN⟩:=h.2 x (by grind)
 exact ⟨N, fun n hn => (hN n hn).mono (by have:=h.1; grind) hc⟩⟩
theorem LoC.all {a c : Rat} (h : ∀ e, 0 < e → LoC (a - e) c) : LoC a c:=fun x h1 h2 n => h ((a - x) / 2) (by grind) x h1 (by grind) n
theorem UpC.all {b c : Rat} (hb : 0 ≤ b) (h : ∀ e, 0 < e → UpC c (b + e)) : UpC c b:=⟨hb, fun x h1 => (h ((x - b) / 2) (by grind)).2 x (by grind)⟩
theorem LoC.le {a b c c' : Rat} (h : LoC a c) (k : UpC c' b) (hc : c' ≤ c) : a ≤ b:=by
 by_cases hab : a ≤ b
 ·exact hab
 have hb:=k.1
 obtain ⟨y, hy⟩ : ∃ y, y = b + (a - b) / 3:=⟨_, rfl⟩
 obtain ⟨x, hx⟩ : ∃ x, x = b + 2 * ((a - b) / 3):=⟨_, rfl⟩
 obtain ⟨N, hN⟩:=k.2 y (by grind)
 have hy0 : 0 < y:=by grind
 have hx0 : 0 < x:=by grind
 have hxy : y < x:=by grind
 have hp : 0 < x * (y * y):=Rat.mul_pos hx0 (Rat.mul_pos hy0 hy0)
 obtain ⟨M, hM⟩:=hn_quick (x:=x * (y * y)) (y:=x - y) (by grind) (Rat.le_of_lt hp)
 have h1:=h x hx0 (by grind) (N + M)
 have h2:=hN (N + M) (by omega)
 have h3:=hM (N + M) (by omega)
 have hq:=hn_pos (N + M)
 have hq1 : hn (N + M) ≤ 1:=hn_le (n:=0) (by omega)
 have h4:=gl_gu h1 h2 hy0 hxy (by
  have:=Rat.mul_le_mul_of_nonneg_left hq1 (Rat.le_of_lt (Rat.mul_pos hp hq))
  grind)
 grind
theorem LoC.dbl {a c d : Rat} (h : LoC a d) (hd : 0 < d) (hc : c ≤ kd d) : LoC (2 * a) c:=fun x h1 h2 n => by
  have hx : x / 2 < a:=by grind
  cases n with
  | zero =>
    have:=h (x / 2) (by grind) hx 0
    show c * x ≤ 1
    have e : d * (x / 2) ≤ 1:=this
    have k : kd d ≤ d / 2:=by
      have:=Rat.inv_pos.2 hd
      unfold kd
      grind
    have:=Rat.mul_le_mul_of_nonneg_right (Rat.le_trans hc k) (Rat.le_of_lt h1)
    grind
  | succ n => exact ⟨d, hd, h (x / 2) (by grind) hx n, hc⟩
theorem UpC.dbl {b c d : Rat} (h : UpC d b) (hd : 0 < d) (hc : kd d ≤ c) : UpC c (2 * b):=⟨by have:=h.1; grind, fun x h1 => by
 obtain ⟨N, hN⟩:=h.2 (x / 2) (by grind)
 refine ⟨N + 1, fun n hn => ?_⟩
 obtain ⟨m, rfl⟩ : ∃ m, n = m + 1:=⟨n - 1, by omega⟩
 exact ⟨d, hd, hN m (by omega), hc⟩⟩
theorem LoC.add {a b c d : Rat} (h : LoC a c) (k : LoC b d) (hc : 0 < c) (hd : 0 < d) : LoC (a + b) (cs c d):=fun x h1 h2 n => by
 have e:=cs_eq (show 0 < c + d by grind)
 have le1 : cs c d ≤ c:=by
  refine le_of_mul (c:=c + d) (by grind) ?_
  rw [e]
  have:=Rat.mul_pos hc hc
  grind
 have le2 : cs c d ≤ d:=by
  refine le_of_mul (c:=c + d) (by grind) ?_
  rw [e]
  have:=Rat.mul_pos hd hd
  grind
 by_cases ha : 0 < a
 ·by_cases hb : 0 < b
  ·-- split x
   by_cases hx : x ≤ a / 2
   ·exact (h x h1 (by grind) n).mono (Rat.le_of_lt h1) le1
   ·by_cases hx2 : x ≤ b / 2
    ·exact (k x h1 (by grind) n).mono (Rat.le_of_lt h1) le2
    ·obtain ⟨t, ht⟩ : ∃ t, t = x / (a + b):=⟨_, rfl⟩
     have et : t * (a + b) = x:=by rw [ht]; exact Rat.div_mul_cancel (Rat.ne_of_gt (by grind))
     have t0 : 0 < t:=lt_of_mul9 (c:=a + b) (by grind) (by grind)
     have t1 : t < 1:=lt_of_mul9 (c:=a + b) (by grind) (by grind)
     have g1:=h (t * a) (Rat.mul_pos t0 ha) (by have:=Rat.mul_pos (show 0 < 1 - t by grind) ha; grind) n
     have g2:=k (t * b) (Rat.mul_pos t0 hb) (by have:=Rat.mul_pos (show 0 < 1 - t by grind) hb; grind) n
     have:=GL.add (Rat.mul_pos t0 ha) (Rat.mul_pos t0 hb) g1 g2 (by grind)
     rwa [show t * a + t * b = x by grind] at this
  ·exact (h x h1 (by grind) n).mono (Rat.le_of_lt h1) le1
 ·exact (k x h1 (by grind) n).mono (Rat.le_of_lt h1) le2
theorem UpC.add {a b c d : Rat} (h : UpC c a) (k : UpC d b) (hcd : 0 < c + d) : UpC (cs c d) (a + b):=⟨by have:=h.1; have:=k.1; grind, fun x h1 => by
 have ha:=h.1
 have hb:=k.1
 obtain ⟨e, he⟩ : ∃ e, e = (x - (a + b)) / 2:=⟨_, rfl⟩
 obtain ⟨N, hN⟩:=h.2 (a + e) (by grind)
 obtain ⟨M, hM⟩:=k.2 (b + e) (by grind)
 obtain ⟨A, hA⟩:=hn_quick (x:=a + e) (y:=4 / 5) (by grind) (by grind)
 obtain ⟨B, hB⟩:=hn_quick (x:=b + e) (y:=4 / 5) (by grind) (by grind)
 refine ⟨N + M + A + B, fun n hn => ?_⟩
 have:=GU.add (show 0 < a + e by grind) (show 0 < b + e by grind) (Rat.le_of_lt (hA n (by omega))) (Rat.le_of_lt (hB n (by omega))) (hN n (by omega)) (hM n (by omega)) hcd
 rwa [show a + e + (b + e) = x by grind] at this⟩
theorem gl_m {n : Nat} : ∀ {a c : Rat}, 0 < a → a ≤ 4 / 5 → c * a ≤ 1 - a * a → GL n a c:=by
  induction n with
  | zero => intro a c h0 h1 h2; show c * a ≤ 1; have:=Rat.mul_pos h0 h0; grind
  | succ n ih =>
    intro a c h0 h1 h2
    obtain ⟨h, hh⟩ : ∃ h, h = a / 2:=⟨_, rfl⟩
    have hp : 0 < h:=by grind
    have sq : h * h ≤ 4 / 25:=by
      have:=rmul_le (show h ≤ 2 / 5 by grind) (show h ≤ 2 / 5 by grind) (by grind) (by grind)
      grind
    have s0:=Rat.mul_pos hp hp
    obtain ⟨d, hd⟩ : ∃ d, d * h = 1 - h * h:=⟨(1 - h * h) / h, Rat.div_mul_cancel (Rat.ne_of_gt hp)⟩
    have d0 : 0 < d:=lt_of_mul9 hp (by grind)
    refine ⟨d, d0, ?_, ?_⟩
    · rw [← hh]
      exact ih hp (by grind) (by rw [hd]; exact Rat.le_refl)
    · have e:=kd_eq d0
      generalize kd d = k at *
      have hp2 : 0 < 4 * (d * h) * h:=by
        have:=Rat.mul_pos (Rat.mul_pos d0 hp) hp
        grind
      refine le_of_mul hp2 ?_
      have q1 : c * (4 * (d * h) * h) = (c * a) * (2 * (1 - h * h)):=by rw [hd]; grind
      have q2 : k * (4 * (d * h) * h) = 2 * ((d * h) * (d * h) - h * h):=by
        have : k * (4 * (d * h) * h) = (k * (2 * d)) * (2 * (h * h)):=by grind
        rw [this, e]; grind
      rw [q1, q2, hd]
      have q3:=Rat.mul_le_mul_of_nonneg_right h2 (show 0 ≤ 2 * (1 - h * h) by grind)
      refine Rat.le_trans q3 ?_
      have ea : a = 2 * h:=by grind
      rw [ea]
      have:=Rat.mul_nonneg (Rat.le_of_lt s0) (show 0 ≤ 2 - 3 * (h * h) by grind)
      clear q1 q2 q3 e hd ih
      grind
theorem gu_s {n : Nat} : ∀ {b c : Rat}, 0 < b → 1 ≤ c * b → GU n b c:=by
  induction n with
  | zero => intro b c h0 h1; show 1 - b * b ≤ c * b; have:=Rat.mul_pos h0 h0; grind
  | succ n ih =>
    intro b c h0 h1
    have hi:=Rat.inv_pos.2 h0
    have e:=Rat.inv_mul_cancel b (Rat.ne_of_gt h0)
    refine ⟨2 * b⁻¹, by grind, ih (by grind) (by grind), ?_⟩
    have k : kd (2 * b⁻¹) ≤ b⁻¹:=by
      have:=Rat.inv_pos.2 (show 0 < 2 * b⁻¹ by grind)
      unfold kd
      generalize (2 * b⁻¹)⁻¹ = x at *
      grind
    refine Rat.le_trans k ?_
    refine le_of_mul h0 ?_
    grind
theorem LoC.small {s c : Rat} (hs : 0 < s) (hc : c * s ≤ 1) (c0 : 0 ≤ c) : LoC (s / (1 + s * s)) c:=fun x h1 h2 n => by
 have s2:=Rat.mul_pos hs hs
 have hp : 0 < 1 + s * s:=by grind
 have e : s / (1 + s * s) * (1 + s * s) = s:=Rat.div_mul_cancel (Rat.ne_of_gt hp)
 generalize s / (1 + s * s) = a at *
 have ha : 0 < a:=by grind
 have a1 : a ≤ 1 / 2:=by
  refine le_of_mul hp ?_
  rw [e]
  have : 0 ≤ (1 - s) * (1 - s):=by
   by_cases h3 : 0 ≤ 1 - s
   ·exact Rat.mul_nonneg h3 h3
   ·have:=Rat.mul_nonneg (show 0 ≤ -(1 - s) by grind) (show 0 ≤ -(1 - s) by grind)
    grind
  grind
 have a2 : a ≤ s:=by
  have:=Rat.mul_nonneg (Rat.le_of_lt ha) (Rat.le_of_lt s2)
  grind
 refine (gl_m (n:=n) (c:=c) ha (by grind) ?_).up (by grind) (by grind) c0
 -- c a ≤ 1 - a a
 refine le_of_mul hs ?_
 have q1:=Rat.mul_le_mul_of_nonneg_right hc (Rat.le_of_lt ha)
 have q2 : (1 - a * a) * s = s - a * (a * s):=by grind
 have q3 : a * s * a ≤ a * s * s:=Rat.mul_le_mul_of_nonneg_left a2 (Rat.le_of_lt (Rat.mul_pos ha hs))
 grind
theorem UpC.small {s c : Rat} (hs : 0 < s) (hc : 1 ≤ c * s) : UpC c s:=⟨Rat.le_of_lt hs, fun x h1 => ⟨0, fun n _ => by
 have c0 : 0 < c:=lt_of_mul9 hs (by grind)
 have:=Rat.mul_le_mul_of_nonneg_left (Rat.le_of_lt h1) (Rat.le_of_lt c0)
 exact gu_s (by grind) (by grind)⟩⟩
def sr (p : Nat → Bool) : Nat → Rat → Rat
 | 0, _ => 0
 | n + 1, z => sr p n z + if p n then rp z (2 * n + 1) / (((2 * n : Nat) : Rat) + 1) else 0
def gr (p : Nat → Bool) : Nat → Rat → Rat
 | 0, _ => 0
 | n + 1, z => gr p n z + if p n then rp z (2 * n) else 0
theorem sr_diff (p : Nat → Bool) (n : Nat) {t h : Rat} (ht : 0 ≤ t) (hh : 0 ≤ h) : h * gr p n t ≤ sr p n (t + h) - sr p n t ∧ sr p n (t + h) - sr p n t ≤ h * gr p n (t + h):=by
  induction n with
  | zero =>
    show h * 0 ≤ (0 : Rat) - 0 ∧ (0 : Rat) - 0 ≤ h * 0
    constructor <;> grind
  | succ n ih =>
    cases hp : p n with
    | false =>
      have e1 : ∀ z, sr p (n + 1) z = sr p n z + 0:=fun z => by show sr p n z + (if p n then _ else (0 : Rat)) = _; rw [hp]; rfl
      have e2 : ∀ z, gr p (n + 1) z = gr p n z + 0:=fun z => by show gr p n z + (if p n then _ else (0 : Rat)) = _; rw [hp]; rfl
      rw [e1, e1, e2, e2]
      simp only [Rat.add_zero]
      exact ih
    | true =>
      have e1 : ∀ z, sr p (n + 1) z = sr p n z + rp z (2 * n + 1) / (((2 * n : Nat) : Rat) + 1):=fun z => by show sr p n z + (if p n then _ else (0 : Rat)) = _; rw [hp]; rfl
      have e2 : ∀ z, gr p (n + 1) z = gr p n z + rp z (2 * n):=fun z => by show gr p n z + (if p n then _ else (0 : Rat)) = _; rw [hp]; rfl
      rw [e1, e1, e2, e2]
      obtain ⟨a, b⟩:=rp_diff ht hh (2 * n)
      have k0:=nat_nn (2 * n)
      have hk : (0 : Rat) < ((2 * n : Nat) : Rat) + 1:=by grind
      obtain ⟨i1, i2⟩:=ih
      have e : rp (t + h) (2 * n + 1) / (((2 * n : Nat) : Rat) + 1) - rp t (2 * n + 1) / (((2 * n : Nat) : Rat) + 1) = (rp (t + h) (2 * n + 1) - rp t (2 * n + 1)) / (((2 * n : Nat) : Rat) + 1):=by
        rw [Rat.div_def, Rat.div_def, Rat.div_def]
        grind
      have c1 : h * rp t (2 * n) ≤ (rp (t + h) (2 * n + 1) - rp t (2 * n + 1)) / (((2 * n : Nat) : Rat) + 1):=le_div9 hk (by grind)
      have c2 : (rp (t + h) (2 * n + 1) - rp t (2 * n + 1)) / (((2 * n : Nat) : Rat) + 1) ≤ h * rp (t + h) (2 * n):=div_le9 hk (by grind)
      rw [← e] at c1 c2
      generalize rp (t + h) (2 * n + 1) / (((2 * n : Nat) : Rat) + 1) = A at *
      generalize rp t (2 * n + 1) / (((2 * n : Nat) : Rat) + 1) = B at *
      generalize rp (t + h) (2 * n) = C at *
      generalize rp t (2 * n) = D at *
      clear a b e k0 hk e1 e2
      constructor <;> grind
def evn (k : Nat) : Bool:=decide (k % 2 = 0)
def odn (k : Nat) : Bool:=!evn k
def sgn9 (n : Nat) : Rat:=if evn n then 1 else -1
theorem evn_succ (n : Nat) : evn (n + 1) = !evn n:=by
 unfold evn
 by_cases h : n % 2 = 0
 ·rw [decide_eq_true h, decide_eq_false (by omega)]; rfl
 ·rw [decide_eq_false h, decide_eq_true (by omega)]; rfl
theorem gr_geo (n : Nat) (z : Rat) : (gr evn n z - gr odn n z) * (1 + z * z) = 1 - sgn9 n * rp z (2 * n):=by
  induction n with
  | zero =>
    show (0 - 0) * (1 + z * z) = 1 - 1 * 1
    grind
  | succ n ih =>
    have e3 : rp z (2 * (n + 1)) = rp z (2 * n) * z * z:=rfl
    have e1 : gr evn (n + 1) z = gr evn n z + if evn n then rp z (2 * n) else 0:=rfl
    have e2 : gr odn (n + 1) z = gr odn n z + if (!evn n) = true then rp z (2 * n) else 0:=rfl
    unfold sgn9 at ih ⊢
    rw [evn_succ, e1, e2, e3]
    cases he : evn n <;> rw [he] at ih <;> simp only [Bool.not_false, Bool.not_true, if_true, Bool.false_eq_true, if_false] at ih ⊢ <;> grind
theorem gr_nn (p : Nat → Bool) (n : Nat) {z : Rat} (h : 0 ≤ z) : 0 ≤ gr p n z:=by
  induction n with
  | zero => exact Rat.le_refl
  | succ n ih =>
    show 0 ≤ gr p n z + if p n then rp z (2 * n) else 0
    have:=rp_nn h (2 * n)
    split <;> grind
theorem sr_zero (p : Nat → Bool) (n : Nat) : sr p n 0 = 0:=by
  induction n with
  | zero => rfl
  | succ n ih =>
    show sr p n 0 + (if p n then rp 0 (2 * n) * 0 / (((2 * n : Nat) : Rat) + 1) else 0) = 0
    rw [ih, Rat.mul_zero, Rat.div_def, Rat.zero_mul]
    split <;> exact Rat.add_zero 0
def ats (n : Nat) (z : Rat) : Rat:=sr evn n z - sr odn n z
theorem sgn_abs (n : Nat) {x : Rat} (h : 0 ≤ x) : -x ≤ sgn9 n * x ∧ sgn9 n * x ≤ x:=by
 unfold sgn9
 split <;> constructor <;> grind
theorem atn_step (n : Nat) {t h r : Rat} (ht : 0 ≤ t) (hh : 0 < h) (h1 : t + h ≤ 1) (hr : rp t (2 * n) ≤ r) :
  ∃ s, 0 < s ∧ s * (1 + t * (t + h)) = h ∧ ats n (t + h) - ats n t - h * r - h * (gr evn n (t + h) - gr evn n t) - 2 * (h * h) ≤ s / (1 + s * s) ∧ s ≤ ats n (t + h) - ats n t + h * r + h * (gr odn n (t + h) - gr odn n t):=by
 obtain ⟨a1, a2⟩:=sr_diff evn n ht (Rat.le_of_lt hh)
 obtain ⟨b1, b2⟩:=sr_diff odn n ht (Rat.le_of_lt hh)
 have g:=gr_geo n t
 have r0:=rp_nn ht (2 * n)
 obtain ⟨s1, s2⟩:=sgn_abs n r0
 generalize sgn9 n * rp t (2 * n) = R at *
 have R1 : R ≤ r:=Rat.le_trans s2 hr
 have R2 : -r ≤ R:=by grind
 have t2:=Rat.mul_nonneg ht ht
 have th:=Rat.mul_nonneg ht (Rat.le_of_lt hh)
 have r9 : 0 ≤ r:=Rat.le_trans r0 hr
 unfold ats
 generalize sr evn n (t + h) = E2 at *
 generalize sr evn n t = E1 at *
 generalize sr odn n (t + h) = O2 at *
 generalize sr odn n t = O1 at *
 generalize gr evn n (t + h) = F2 at *
 generalize gr evn n t = F1 at *
 generalize gr odn n (t + h) = P2 at *
 generalize gr odn n t = P1 at *
 -- q = h / (1 + t t)
 obtain ⟨q, hq⟩ : ∃ q, q * (1 + t * t) = h:=⟨h / (1 + t * t), Rat.div_mul_cancel (Rat.ne_of_gt (by grind))⟩
 have q0 : 0 < q:=lt_of_mul9 (c:=1 + t * t) (by grind) (by grind)
 have qh : q ≤ h:=by have:=Rat.mul_nonneg (Rat.le_of_lt q0) t2; grind
 have qr:=Rat.mul_nonneg (Rat.le_of_lt q0) r9
 have hD : h * (F1 - P1) = q * (1 - R):=by rw [← g, ← hq]; grind
 have d1 : h * (F1 - P1) ≤ q + h * r:=by
  have m1:=Rat.mul_le_mul_of_nonneg_left R2 (Rat.le_of_lt q0)
  have m2:=Rat.mul_le_mul_of_nonneg_right qh r9
  grind
 have d2 : q - h * r ≤ h * (F1 - P1):=by
  have m1:=Rat.mul_le_mul_of_nonneg_left R1 (Rat.le_of_lt q0)
  have m2:=Rat.mul_le_mul_of_nonneg_right qh r9
  grind
 have hp : 0 < 1 + t * (t + h):=by grind
 obtain ⟨s, hs⟩ : ∃ s, s * (1 + t * (t + h)) = h:=⟨h / (1 + t * (t + h)), Rat.div_mul_cancel (Rat.ne_of_gt hp)⟩
 have s0 : 0 < s:=lt_of_mul9 hp (by grind)
 have sq : s ≤ q:=by
  refine le_of_mul (c:=1 + t * t) (by grind) ?_
  have:=Rat.mul_nonneg (Rat.le_of_lt s0) th
  grind
 refine ⟨s, s0, hs, ?_, by grind⟩
 have main : q - 2 * (h * h) ≤ s / (1 + s * s):=by
  have ss:=Rat.mul_pos s0 s0
  have hp2 : 0 < 1 + s * s:=by grind
  have e : s / (1 + s * s) * (1 + s * s) = s:=Rat.div_mul_cancel (Rat.ne_of_gt hp2)
  generalize s / (1 + s * s) = y at *
  have y0 : 0 < y:=lt_of_mul9 hp2 (by grind)
  have ys : y ≤ s:=by have:=Rat.mul_nonneg (Rat.le_of_lt y0) (Rat.le_of_lt ss); grind
  -- y = s - y s s ≥ s - h h, s = q - (s t h) / (1 + t t) ≥ q - h h
  have k1 : y * (s * s) ≤ h * h:=by
   have c1:=Rat.mul_le_mul_of_nonneg_right (show y ≤ 1 by grind) (Rat.le_of_lt ss)
   have c2:=rmul_le (show s ≤ h by grind) (show s ≤ h by grind) (Rat.le_of_lt s0) (Rat.le_of_lt hh)
   grind
  have k2 : q ≤ s + h * h:=by
   refine le_of_mul (c:=1 + t * t) (by grind) ?_
   have c1 : s * (t * h) ≤ h * h:=by
    have:=rmul_le (show s ≤ h by grind) (show t * h ≤ 1 * h from Rat.mul_le_mul_of_nonneg_right (by grind) (Rat.le_of_lt hh)) th (Rat.le_of_lt hh)
    grind
   have c2:=Rat.mul_nonneg (Rat.mul_nonneg (Rat.le_of_lt hh) (Rat.le_of_lt hh)) t2
   grind
  grind
 grind
theorem cot_step {t h s : Rat} (ht : 0 < t) (hh : 0 < h) (hs : s * (1 + t * (t + h)) = h) (s0 : 0 < s) : cs t⁻¹ s⁻¹ = (t + h)⁻¹:=by
 have e1:=Rat.inv_mul_cancel t (Rat.ne_of_gt ht)
 have e2:=Rat.inv_mul_cancel s (Rat.ne_of_gt s0)
 have e3:=Rat.inv_mul_cancel (t + h) (Rat.ne_of_gt (by grind))
 have p1:=Rat.inv_pos.2 ht
 have p2:=Rat.inv_pos.2 s0
 have e:=cs_eq (show 0 < t⁻¹ + s⁻¹ by grind)
 generalize cs t⁻¹ s⁻¹ = x at *
 generalize t⁻¹ = a at *
 generalize s⁻¹ = b at *
 generalize (t + h)⁻¹ = y at *
 -- x (t + s) = 1 - t s ; (t + s) = (t + h)(1 - t s)
 have f1 : x * (t + s) = 1 - t * s:=by
  have m : x * (t + s) = (x * (a + b)) * (t * s) + x * ((t + s) - (a + b) * (t * s)):=by grind
  have z1 : (a + b) * (t * s) = t + s:=by
   have : (a + b) * (t * s) = (a * t) * s + (b * s) * t:=by grind
   rw [this, e1, e2]; grind
  rw [m, z1, e]
  have : (a * b - 1) * (t * s) = (a * t) * (b * s) - t * s:=by grind
  rw [this, e1, e2]; grind
 have f2 : t + s = (t + h) * (1 - t * s):=by
  have : h = s + s * t * (t + h):=by rw [← hs]; grind
  grind
 have q0 : 0 < 1 - t * s:=by
  refine lt_of_mul9 (c:=t + h) (by grind) ?_
  rw [Rat.zero_mul, Rat.mul_comm, ← f2]; grind
 have f3 : x * (t + h) = 1:=by
  have u : x * (t + h) * (1 - t * s) = 1 * (1 - t * s):=by rw [← f2] at *; grind
  exact Rat.le_antisymm (le_of_mul q0 (by rw [u]; exact Rat.le_refl)) (le_of_mul q0 (by rw [u]; exact Rat.le_refl))
 have w : x * (t + h) = y * (t + h):=by rw [f3, e3]
 exact Rat.le_antisymm (le_of_mul (c:=t + h) (by grind) (by rw [w]; exact Rat.le_refl)) (le_of_mul (c:=t + h) (by grind) (by rw [w]; exact Rat.le_refl))
theorem at_ind (n : Nat) {z h r : Rat} (hh : 0 < h) (hz : z ≤ 1) (hr : rp z (2 * n) ≤ r) : ∀ j : Nat, ((j + 1 : Nat) : Rat) * h ≤ z → LoC (ats n (((j + 1 : Nat) : Rat) * h) - ((j + 1 : Nat) : Rat) * h * r - h * gr evn n (((j + 1 : Nat) : Rat) * h) - 2 * h * (((j + 1 : Nat) : Rat) * h)) (((j + 1 : Nat) : Rat) * h)⁻¹ ∧ UpC (((j + 1 : Nat) : Rat) * h)⁻¹ (ats n (((j + 1 : Nat) : Rat) * h) + ((j + 1 : Nat) : Rat) * h * r + h * gr odn n (((j + 1 : Nat) : Rat) * h))
  | 0, hj => by
    have e : ((0 + 1 : Nat) : Rat) * h = 0 + h:=by rw [show ((0 + 1 : Nat) : Rat) = 1 from rfl]; grind
    rw [e] at hj ⊢
    obtain ⟨s, s0, hs, s1, s2⟩:=atn_step n (t:=0) (r:=r) Rat.le_refl hh (by grind) (Rat.le_trans (rp_le Rat.le_refl (by grind) _) hr)
    have hsh : s = h:=by grind
    rw [hsh] at s1 s2
    have g1:=gr_nn evn n (z:=0) Rat.le_refl
    have g2:=gr_nn odn n (z:=0) Rat.le_refl
    have m1:=Rat.mul_nonneg (Rat.le_of_lt hh) g1
    have m2:=Rat.mul_nonneg (Rat.le_of_lt hh) g2
    have z0 : ats n 0 = 0:=by unfold ats; rw [sr_zero, sr_zero]; exact Rat.sub_self
    rw [z0] at s1 s2
    have hx : (0 + h)⁻¹ * h = 1:=by rw [Rat.zero_add]; exact Rat.inv_mul_cancel h (Rat.ne_of_gt hh)
    have hx0 : 0 < (0 + h)⁻¹:=Rat.inv_pos.2 (by grind)
    refine ⟨(LoC.small hh (by rw [hx]; exact Rat.le_refl) (Rat.le_of_lt hx0)).mono (by grind) Rat.le_refl, (UpC.small hh (by rw [hx]; exact Rat.le_refl)).mono (by grind) Rat.le_refl⟩
  | j + 1, hj => by
    have e : ((j + 1 + 1 : Nat) : Rat) * h = ((j + 1 : Nat) : Rat) * h + h:=by push_cast; grind
    rw [e] at hj ⊢
    obtain ⟨i1, i2⟩:=at_ind n hh hz hr j (by grind)
    have ht : 0 < ((j + 1 : Nat) : Rat) * h:=Rat.mul_pos (by exact_mod_cast Nat.succ_pos j) hh
    generalize ((j + 1 : Nat) : Rat) * h = t at *
    obtain ⟨s, s0, hs, s1, s2⟩:=atn_step n (t:=t) (r:=r) (Rat.le_of_lt ht) hh (by grind) (Rat.le_trans (rp_le (Rat.le_of_lt ht) (by grind) _) hr)
    have c:=cot_step ht hh hs s0
    have hx : s⁻¹ * s = 1:=Rat.inv_mul_cancel s (Rat.ne_of_gt s0)
    have hx0 : 0 < s⁻¹:=Rat.inv_pos.2 s0
    have t0 : 0 < t⁻¹:=Rat.inv_pos.2 ht
    have l:=i1.add (LoC.small s0 (by rw [hx]; exact Rat.le_refl) (Rat.le_of_lt hx0)) t0 hx0
    have u:=i2.add (UpC.small s0 (by rw [hx]; exact Rat.le_refl)) (by grind)
    rw [c] at l u
    exact ⟨l.mono (by clear l u c i1 i2; grind) Rat.le_refl, u.mono (by clear l u c i1 i2; grind) Rat.le_refl⟩
theorem at_ser (n : Nat) {z r : Rat} (h0 : 0 < z) (h1 : z ≤ 1) (hr : rp z (2 * n) ≤ r) : LoC (ats n z - z * r) z⁻¹ ∧ UpC z⁻¹ (ats n z + z * r):=by
 have g1:=gr_nn evn n (Rat.le_of_lt h0)
 have g2:=gr_nn odn n (Rat.le_of_lt h0)
 have key : ∀ e : Rat, 0 < e → LoC (ats n z - z * r - e) z⁻¹ ∧ UpC z⁻¹ (ats n z + z * r + e):=fun e he => by
  obtain ⟨C, hC⟩ : ∃ C, C = z * (gr evn n z + gr odn n z + 2 * z):=⟨_, rfl⟩
  obtain ⟨N, hN⟩:=nat_over (C / e)
  have eN : C / e * e = C:=Rat.div_mul_cancel (Rat.ne_of_gt he)
  have hN2 : C ≤ ((N + 1 : Nat) : Rat) * e:=by
   have p : ((N + 1 : Nat) : Rat) = (N : Rat) + 1:=by push_cast; rfl
   have:=Rat.mul_lt_mul_of_pos_right hN he
   rw [p]; grind
  have pN : (0 : Rat) < ((N + 1 : Nat) : Rat):=by exact_mod_cast Nat.succ_pos N
  obtain ⟨h, hh⟩ : ∃ h, ((N + 1 : Nat) : Rat) * h = z:=⟨z / ((N + 1 : Nat) : Rat), by rw [Rat.mul_comm]; exact Rat.div_mul_cancel (Rat.ne_of_gt pN)⟩
  have hp : 0 < h:=lt_of_mul9 pN (by grind)
  obtain ⟨l, u⟩:=at_ind n hp h1 hr N (by rw [hh]; exact Rat.le_refl)
  rw [hh] at l u
  have hCe : h * (gr evn n z + gr odn n z + 2 * z) ≤ e:=by
   refine le_of_mul pN ?_
   have : h * (gr evn n z + gr odn n z + 2 * z) * ((N + 1 : Nat) : Rat) = C:=by rw [hC, ← hh]; grind
   rw [this]; grind
  have m1:=Rat.mul_nonneg (Rat.le_of_lt hp) g1
  have m2:=Rat.mul_nonneg (Rat.le_of_lt hp) g2
  have m3:=Rat.mul_nonneg (Rat.le_of_lt hp) (Rat.le_of_lt h0)
  exact ⟨l.mono (by grind) Rat.le_refl, u.mono (by grind) Rat.le_refl⟩
 have hb : 0 ≤ ats n z + z * r:=by
  refine Rat.not_lt.1 fun hlt => ?_
  have:=(key (-(ats n z + z * r) / 2) (by grind)).2.1
  grind
 exact ⟨LoC.all fun e he => (key e he).1, UpC.all hb fun e he => (key e he).2⟩
def AtL (a x : Rat) : Prop:=(0 < x ∧ LoC a x⁻¹) ∨ (x = 0 ∧ a ≤ 0) ∨ (x < 0 ∧ UpC (-x)⁻¹ (-a))
def AtU (x b : Rat) : Prop:=AtL (-b) (-x)
theorem AtL.neg {a x : Rat} (h : AtL a x) : AtU (-x) (-a):=by
 unfold AtU
 rwa [Rat.neg_neg, Rat.neg_neg]
theorem AtU.neg {x b : Rat} (h : AtU x b) : AtL (-b) (-x):=h
theorem inv_le9 {x y : Rat} (hx : 0 < x) (h : x ≤ y) : y⁻¹ ≤ x⁻¹:=by
 have hy : 0 < y:=by grind
 have e1:=Rat.inv_mul_cancel x (Rat.ne_of_gt hx)
 have e2:=Rat.inv_mul_cancel y (Rat.ne_of_gt hy)
 have p:=Rat.inv_pos.2 hx
 refine le_of_mul hy ?_
 rw [e2]
 have:=Rat.mul_le_mul_of_nonneg_left h (Rat.le_of_lt p)
 grind
theorem at_le {a b x y : Rat} (h : AtL a x) (k : AtU y b) (hxy : x ≤ y) : a ≤ b:=by
 unfold AtU AtL at *
 rcases h with ⟨h0, h1⟩ | ⟨h0, h1⟩ | ⟨h0, h1⟩
 ·rcases k with ⟨k0, k1⟩ | ⟨k0, k1⟩ | ⟨k0, k1⟩
  ·grind
  ·grind
  ·rw [Rat.neg_neg, Rat.neg_neg] at k1
   exact h1.le k1 (inv_le9 h0 hxy)
 ·rcases k with ⟨k0, k1⟩ | ⟨k0, k1⟩ | ⟨k0, k1⟩
  ·grind
  ·grind
  ·rw [Rat.neg_neg, Rat.neg_neg] at k1
   have:=k1.1
   grind
 ·have n:=h1.1
  rcases k with ⟨k0, k1⟩ | ⟨k0, k1⟩ | ⟨k0, k1⟩
  ·have:=k1.le h1 (inv_le9 k0 (by grind))
   grind
  ·grind
  ·rw [Rat.neg_neg, Rat.neg_neg] at k1
   have:=k1.1
   grind
theorem AtL.mono {a a' x : Rat} (h : AtL a x) (ha : a' ≤ a) : AtL a' x:=by
 rcases h with ⟨h0, h1⟩ | ⟨h0, h1⟩ | ⟨h0, h1⟩
 ·exact Or.inl ⟨h0, h1.mono ha Rat.le_refl⟩
 ·exact Or.inr (Or.inl ⟨h0, by grind⟩)
 ·exact Or.inr (Or.inr ⟨h0, h1.mono (by grind) Rat.le_refl⟩)
theorem AtU.mono {x b b' : Rat} (h : AtU x b) (hb : b ≤ b') : AtU x b':=AtL.mono (a := -b) h (by grind)
theorem gr_le2 (p : Nat → Bool) (n : Nat) {y : Rat} (h0 : 0 ≤ y) (h1 : y ≤ 1 / 2) : gr p n y ≤ 2:=by
  have l : ∀ n, gr p n y ≤ gs n y:=fun n => by
    induction n with
    | zero => exact Rat.le_refl
    | succ n ih =>
      have:=rp_nn h0 (2 * n)
      show gr p n y + (if p n then rp y (2 * n) else 0) ≤ gs n y + rp y (2 * n)
      split <;> grind
  have g:=gs_geo n y
  have r:=rp_nn h0 (2 * n)
  have hl:=l n
  have yy : y * y ≤ 1 / 4:=by
    have:=rmul_le h1 h1 h0 (by grind)
    grind
  have gp : gs n y ≤ 2:=by
    refine le_of_mul (c:=1 - y * y) (by grind) ?_
    rw [g]
    grind
  exact Rat.le_trans hl gp
theorem rp_odd2 (n : Nat) {y : Rat} (h0 : 0 ≤ y) (h1 : y ≤ 1 / 2) : (((2 * n : Nat) : Rat) + 1) * rp y (2 * n) ≤ 1:=by
  induction n with
  | zero => show (((2 * 0 : Nat) : Rat) + 1) * 1 ≤ 1; decide +kernel
  | succ n ih =>
    have e : ((2 * (n + 1) : Nat) : Rat) = ((2 * n : Nat) : Rat) + 2:=by push_cast; grind
    have e2 : rp y (2 * (n + 1)) = rp y (2 * n) * y * y:=rfl
    have k:=nat_nn (2 * n)
    have r:=rp_nn h0 (2 * n)
    have yy : y * y ≤ 1 / 4:=by
      have:=rmul_le h1 h1 h0 (by grind)
      grind
    rw [e, e2]
    generalize ((2 * n : Nat) : Rat) = m at *
    generalize rp y (2 * n) = z at *
    have zy:=Rat.mul_le_mul_of_nonneg_left yy r
    have s1 : (m + 2 + 1) * (z * (y * y)) ≤ (m + 2 + 1) * (z * (1 / 4)):=Rat.mul_le_mul_of_nonneg_left zy (by grind)
    have s2 : z ≤ 1:=by
      have:=Rat.mul_nonneg k r
      grind
    have s3 : (m + 2 + 1) * (z * y * y) = (m + 2 + 1) * (z * (y * y)):=by grind
    rw [s3]
    grind
theorem at_beside (n : Nat) {x y u Z N : Rat} (u0 : 0 ≤ u) (x0 : 0 ≤ x) (x1 : x ≤ 1 / 4) (y0 : 0 < y) (y1 : y ≤ 1 / 2) (h1 : x ≤ y + u) (h2 : y ≤ x + u) (hr : rp x (2 * n + 1) ≤ 2 * u) (hZ1 : Z ≤ ats n x + N * u) (hZ2 : ats n x ≤ Z + N * u) :
  LoC (Z - (N + 6) * u) y⁻¹ ∧ UpC y⁻¹ (Z + (N + 6) * u):=by
 obtain ⟨l, k⟩:=at_ser n y0 (by grind) (Rat.le_refl (a:=rp y (2 * n)))
 have e : y * rp y (2 * n) = rp y (2 * n + 1):=Rat.mul_comm _ _
 rw [e] at l k
 have main : ats n y ≤ ats n x + 2 * u ∧ ats n x ≤ ats n y + 2 * u ∧ rp y (2 * n + 1) ≤ 3 * u:=by
  unfold ats
  by_cases hxy : x ≤ y
  ·obtain ⟨h, hh⟩ : ∃ h, y = x + h:=⟨y - x, by grind⟩
   have h0 : 0 ≤ h:=by grind
   obtain ⟨a1, a2⟩:=sr_diff evn n x0 h0
   obtain ⟨b1, b2⟩:=sr_diff odn n x0 h0
   have g1:=gr_le2 evn n (Rat.le_of_lt y0) y1
   have g2:=gr_le2 odn n (Rat.le_of_lt y0) y1
   have p1:=gr_nn evn n x0
   have p2:=gr_nn odn n x0
   obtain ⟨_, c2⟩:=rp_diff x0 h0 (2 * n)
   have o:=rp_odd2 n (Rat.le_of_lt y0) y1
   rw [hh] at g1 g2 o ⊢
   have m1:=Rat.mul_le_mul_of_nonneg_left g1 h0
   have m2:=Rat.mul_le_mul_of_nonneg_left g2 h0
   have m3:=Rat.mul_nonneg h0 p1
   have m4:=Rat.mul_nonneg h0 p2
   have m5:=Rat.mul_le_mul_of_nonneg_left o h0
   have m6 : h * (((2 * n : Nat) : Rat) + 1) * rp (x + h) (2 * n) = h * ((((2 * n : Nat) : Rat) + 1) * rp (x + h) (2 * n)):=Rat.mul_assoc _ _ _
   rw [m6] at c2
   clear l k e g1 g2 p1 p2 o
   refine ⟨?_, ?_, ?_⟩ <;> grind
  ·obtain ⟨h, hh⟩ : ∃ h, x = y + h:=⟨x - y, by grind⟩
   have h0 : 0 ≤ h:=by grind
   have yn:=Rat.le_of_lt y0
   obtain ⟨a1, a2⟩:=sr_diff evn n yn h0
   obtain ⟨b1, b2⟩:=sr_diff odn n yn h0
   have g1:=gr_le2 evn n x0 (by grind)
   have g2:=gr_le2 odn n x0 (by grind)
   have p1:=gr_nn evn n yn
   have p2:=gr_nn odn n yn
   have c2:=rp_le yn (show y ≤ x by grind) (2 * n + 1)
   rw [hh] at g1 g2 ⊢
   have m1:=Rat.mul_le_mul_of_nonneg_left g1 h0
   have m2:=Rat.mul_le_mul_of_nonneg_left g2 h0
   have m3:=Rat.mul_nonneg h0 p1
   have m4:=Rat.mul_nonneg h0 p2
   clear l k e g1 g2 p1 p2
   refine ⟨?_, ?_, ?_⟩ <;> grind
 obtain ⟨m1, m2, m3⟩:=main
 exact ⟨l.mono (by clear l k; grind) Rat.le_refl, k.mono (by clear l k; grind) Rat.le_refl⟩
theorem dq_fl (a b : Int) (p : Nat) : dq (a * b / 2 ^ p) (-(p : Int)) ≤ dq a (-(p : Int)) * dq b (-(p : Int)) ∧ dq a (-(p : Int)) * dq b (-(p : Int)) ≤ dq (a * b / 2 ^ p) (-(p : Int)) + dq 1 (-(p : Int)):=by
 have t:=two_cast p
 have u:=dq_pos (-(p : Int))
 have hp:=pow2_pos p
 have h1 : a * b / 2 ^ p * 2 ^ p ≤ a * b:=Int.ediv_mul_le _ (Int.ne_of_gt hp)
 have h2 : a * b ≤ (a * b / 2 ^ p + 1) * 2 ^ p:=Int.le_of_lt (Int.lt_ediv_add_one_mul_self _ hp)
 have c1:=Rat.intCast_le_intCast.2 h1
 have c2:=Rat.intCast_le_intCast.2 h2
 rw [Rat.intCast_mul, Rat.intCast_mul] at c1 c2
 rw [Rat.intCast_add] at c2
 rw [dq_scale a, dq_scale b, dq_scale (a * b / 2 ^ p)]
 generalize dq 1 (-(p : Int)) = U at *
 generalize (((2 : Int) ^ p : Int) : Rat) = T at *
 generalize ((a * b / 2 ^ p : Int) : Rat) = F at *
 have o : ((1 : Int) : Rat) = 1:=rfl
 rw [o] at c2
 have m1:=Rat.mul_le_mul_of_nonneg_right c1 (Rat.le_of_lt (Rat.mul_pos u u))
 have m2:=Rat.mul_le_mul_of_nonneg_right c2 (Rat.le_of_lt (Rat.mul_pos u u))
 have e1 : F * T * (U * U) = F * U * (T * U):=by grind
 have e2 : (F + 1) * T * (U * U) = (F + 1) * U * (T * U):=by grind
 rw [e1, t] at m1
 rw [e2, t] at m2
 constructor <;> grind
def pwA (Q X : Int) (p : Nat) : Nat → Int
 | 0 => X
 | j + 1 => pwA Q X p j * Q / 2 ^ p
def smA (Q X : Int) (p : Nat) : Nat → Int
 | 0 => 0
 | j + 1 => smA Q X p j + if evn j then pwA Q X p j / (2 * (j : Int) + 1) else -(pwA Q X p j / (2 * (j : Int) + 1))
structure SmX (X Q : Int) (p : Nat) : Prop where
 nn : 0 ≤ X
 lt : X * 1024 ≤ 2 ^ p
 sq : Q = X * X / 2 ^ p
theorem SmX.q {X Q : Int} {p : Nat} (h : SmX X Q p) : 0 ≤ Q ∧ Q * 1048576 ≤ 2 ^ p:=by
 have hp:=pow2_pos p
 have h2:=Int.mul_le_mul h.lt h.lt (by have:=h.nn; omega) (Int.le_of_lt hp)
 rw [h.sq]
 refine ⟨Int.ediv_nonneg (Int.mul_nonneg h.nn h.nn) (Int.le_of_lt hp), ?_⟩
 refine Int.le_of_mul_le_mul_right (a:=2 ^ p) ?_ hp
 have h1 : X * X / 2 ^ p * 2 ^ p ≤ X * X:=Int.ediv_mul_le _ (Int.ne_of_gt hp)
 generalize X * X / 2 ^ p = q at *
 generalize (2 : Int) ^ p = P at *
 have e1 : X * 1024 * (X * 1024) = X * X * 1048576:=by
  rw [show X * 1024 * (X * 1024) = X * (1024 * (X * 1024)) from Int.mul_assoc _ _ _, show 1024 * (X * 1024) = X * 1024 * 1024 from Int.mul_comm _ _, Int.mul_assoc X 1024 1024, ← Int.mul_assoc X X]
  rfl
 have e2 : q * 1048576 * P = q * P * 1048576:=by rw [Int.mul_assoc, Int.mul_comm 1048576, ← Int.mul_assoc]
 omega
theorem pw_nn {X Q : Int} {p : Nat} (h : SmX X Q p) (j : Nat) : 0 ≤ pwA Q X p j:=by
 induction j with
 | zero => exact h.nn
 | succ j ih => exact Int.ediv_nonneg (Int.mul_nonneg ih h.q.1) (Int.le_of_lt (pow2_pos p))
theorem pw_small {X Q : Int} {p : Nat} (h : SmX X Q p) (j : Nat) : pwA Q X p j * 2 ^ (20 * j + 10) ≤ 2 ^ p:=by
  induction j with
  | zero => exact h.lt
  | succ j ih =>
    have hp:=pow2_pos p
    have n:=pw_nn h j
    obtain ⟨q0, q1⟩:=h.q
    have e : (2 : Int) ^ (20 * (j + 1) + 10) = 2 ^ (20 * j + 10) * 1048576:=by
      rw [show 20 * (j + 1) + 10 = 20 * j + 10 + 20 by omega, Int.pow_add]
      rfl
    rw [e]
    show pwA Q X p j * Q / 2 ^ p * (2 ^ (20 * j + 10) * 1048576) ≤ 2 ^ p
    have h1 : pwA Q X p j * Q / 2 ^ p * 2 ^ p ≤ pwA Q X p j * Q:=Int.ediv_mul_le _ (Int.ne_of_gt hp)
    have hk:=pow2_pos (20 * j + 10)
    generalize pwA Q X p j * Q / 2 ^ p = r at *
    generalize pwA Q X p j = t at *
    generalize (2 : Int) ^ (20 * j + 10) = K at *
    generalize (2 : Int) ^ p = P at *
    refine Int.le_of_mul_le_mul_right (a:=P) ?_ hp
    have m1:=Int.mul_le_mul_of_nonneg_right h1 (show 0 ≤ K * 1048576 by omega)
    have m2:=Int.mul_le_mul ih q1 (by omega) (Int.le_of_lt hp)
    have e1 : r * P * (K * 1048576) = r * (K * 1048576) * P:=by rw [Int.mul_assoc, Int.mul_comm P, ← Int.mul_assoc]
    have e2 : t * Q * (K * 1048576) = t * K * (Q * 1048576):=by
      rw [← Int.mul_assoc (t * K), Int.mul_assoc t K Q, Int.mul_comm K Q, ← Int.mul_assoc t Q K, ← Int.mul_assoc (t * Q)]
    omega
theorem pw_end {X Q : Int} {p : Nat} (h : SmX X Q p) {j : Nat} (hj : pwA Q X p j ≠ 0) : 20 * j + 10 ≤ p:=by
 have n:=pw_nn h j
 have s:=pw_small h j
 refine Nat.not_lt.1 fun hlt => ?_
 have e : (2 : Int) ^ p < 2 ^ (20 * j + 10):=by
  have : (2 : Nat) ^ p < 2 ^ (20 * j + 10):=Nat.pow_lt_pow_right (by omega) hlt
  exact_mod_cast this
 have m:=Int.mul_le_mul_of_nonneg_right (show 1 ≤ pwA Q X p j by omega) (Int.le_of_lt (pow2_pos (20 * j + 10)))
 omega
theorem pw_bd {X Q : Int} {p : Nat} (h : SmX X Q p) (j : Nat) : dq (pwA Q X p j) (-(p : Int)) ≤ rp (dq X (-(p : Int))) (2 * j + 1) ∧ rp (dq X (-(p : Int))) (2 * j + 1) ≤ dq (pwA Q X p j) (-(p : Int)) + 2 * dq 1 (-(p : Int)):=by
  have u:=dq_pos (-(p : Int))
  have sm : ∀ (C : Int) (k : Int), 0 ≤ C → 0 < k → C * k ≤ 2 ^ p → 0 ≤ dq C (-(p : Int)) ∧ dq C (-(p : Int)) * (k : Rat) ≤ 1:=fun C k c0 k0 hk => by
    have t:=two_cast p
    have e:=Rat.intCast_le_intCast.2 hk
    rw [Rat.intCast_mul] at e
    have m:=Rat.mul_le_mul_of_nonneg_right e (Rat.le_of_lt u)
    rw [t] at m
    refine ⟨by have:=(dq_le_iff 0 C (-(p : Int))).2 c0; rwa [dq_zero] at this, ?_⟩
    rw [dq_scale]
    grind
  obtain ⟨x0, x1⟩:=sm X 1024 h.nn (by omega) h.lt
  obtain ⟨q0, q1⟩:=sm Q 1048576 h.q.1 (by omega) h.q.2
  have hq:=dq_fl X X p
  rw [← h.sq] at hq
  induction j with
  | zero =>
    show dq X (-(p : Int)) ≤ 1 * dq X (-(p : Int)) ∧ 1 * dq X (-(p : Int)) ≤ dq X (-(p : Int)) + 2 * dq 1 (-(p : Int))
    constructor <;> grind
  | succ j ih =>
    obtain ⟨i1, i2⟩:=ih
    have e : rp (dq X (-(p : Int))) (2 * (j + 1) + 1) = rp (dq X (-(p : Int))) (2 * j + 1) * (dq X (-(p : Int)) * dq X (-(p : Int))):=Rat.mul_assoc _ _ _
    have f:=dq_fl (pwA Q X p j) Q p
    obtain ⟨s0, s1⟩:=sm (pwA Q X p j) 1024 (pw_nn h j) (by omega) (by
      have s:=pw_small h j
      have hk : (1024 : Int) ≤ 2 ^ (20 * j + 10):=by
        have : (2 : Nat) ^ 10 ≤ 2 ^ (20 * j + 10):=Nat.pow_le_pow_right (by omega) (by omega)
        exact_mod_cast this
      have m:=Int.mul_le_mul_of_nonneg_left hk (pw_nn h j)
      omega)
    rw [e]
    show dq (pwA Q X p j * Q / 2 ^ p) (-(p : Int)) ≤ _ ∧ _ ≤ dq (pwA Q X p j * Q / 2 ^ p) (-(p : Int)) + _
    have r0:=rp_nn x0 (2 * j + 1)
    have k1 : ((1024 : Int) : Rat) = 1024:=rfl
    have k2 : ((1048576 : Int) : Rat) = 1048576:=rfl
    rw [k1] at x1 s1
    rw [k2] at q1
    generalize rp (dq X (-(p : Int))) (2 * j + 1) = R at *
    generalize dq X (-(p : Int)) = x at *
    generalize dq Q (-(p : Int)) = q at *
    generalize dq 1 (-(p : Int)) = U at *
    generalize dq (pwA Q X p j) (-(p : Int)) = t at *
    generalize dq (pwA Q X p j * Q / 2 ^ p) (-(p : Int)) = F at *
    clear sm e
    have xx:=Rat.mul_nonneg x0 x0
    have a1 : t * q ≤ R * (x * x):=rmul_le i1 hq.1 q0 r0
    have a2 : R * (x * x) ≤ (t + 2 * U) * (q + U):=rmul_le i2 hq.2 xx (by grind)
    have b1 : U * t ≤ U * (1 / 1024):=Rat.mul_le_mul_of_nonneg_left (by grind) (Rat.le_of_lt u)
    have b2 : U * q ≤ U * (1 / 1048576):=Rat.mul_le_mul_of_nonneg_left (by grind) (Rat.le_of_lt u)
    have hU : U ≤ 1 / 8 ∨ 1 / 8 < U:=by grind
    rcases hU with hU | hU
    · have b3 : U * U ≤ U * (1 / 8):=Rat.mul_le_mul_of_nonneg_left hU (Rat.le_of_lt u)
      constructor <;> grind
    · have b4 : R * (x * x) ≤ (1 / 1024 + 2 * U) * (1 / 1048576):=by
        have xx2 : x * x ≤ 1 / 1048576:=by
          have:=rmul_le (show x ≤ 1 / 1024 by grind) (show x ≤ 1 / 1024 by grind) x0 (by grind)
          grind
        exact rmul_le (by grind) xx2 xx (by grind)
      have F0 : 0 ≤ F + U:=Rat.le_trans (Rat.mul_nonneg s0 q0) f.2
      constructor <;> grind
theorem sm_bd {X Q : Int} {p : Nat} (h : SmX X Q p) (j : Nat) : dq (smA Q X p j) (-(p : Int)) ≤ ats j (dq X (-(p : Int))) + 3 * (j : Rat) * dq 1 (-(p : Int)) ∧ ats j (dq X (-(p : Int))) ≤ dq (smA Q X p j) (-(p : Int)) + 3 * (j : Rat) * dq 1 (-(p : Int)):=by
  have u:=dq_pos (-(p : Int))
  induction j with
  | zero =>
    have z : ats 0 (dq X (-(p : Int))) = 0:=by show (0 : Rat) - 0 = 0; exact Rat.sub_self
    rw [z]
    show dq 0 (-(p : Int)) ≤ 0 + 3 * ((0 : Nat) : Rat) * _ ∧ (0 : Rat) ≤ dq 0 (-(p : Int)) + 3 * ((0 : Nat) : Rat) * _
    rw [dq_zero, show ((0 : Nat) : Rat) = 0 from rfl]
    constructor <;> grind
  | succ j ih =>
    obtain ⟨i1, i2⟩:=ih
    obtain ⟨b1, b2⟩:=pw_bd h j
    have hk : (0 : Int) < 2 * (j : Int) + 1:=by omega
    have f1:=fdiv_le (x:=pwA Q X p j) hk (-(p : Int))
    have f2 : dq (pwA Q X p j) (-(p : Int)) ≤ (dq (pwA Q X p j / (2 * (j : Int) + 1)) (-(p : Int)) + dq 1 (-(p : Int))) * ((2 * (j : Int) + 1 : Int) : Rat):=by
      rw [← dq_succ, dq_scale (pwA Q X p j / (2 * (j : Int) + 1) + 1), dq_scale (pwA Q X p j)]
      have:=Int.le_of_lt (Int.lt_ediv_add_one_mul_self (pwA Q X p j) hk)
      have c:=Rat.intCast_le_intCast.2 this
      rw [Rat.intCast_mul] at c
      have m:=Rat.mul_le_mul_of_nonneg_right c (Rat.le_of_lt u)
      grind
    have ek : ((2 * (j : Int) + 1 : Int) : Rat) = ((2 * j : Nat) : Rat) + 1:=by push_cast; rfl
    rw [ek] at f1 f2
    have kn:=nat_nn (2 * j)
    have kp : (0 : Rat) < ((2 * j : Nat) : Rat) + 1:=by grind
    have dv : rp (dq X (-(p : Int))) (2 * j + 1) / (((2 * j : Nat) : Rat) + 1) * (((2 * j : Nat) : Rat) + 1) = rp (dq X (-(p : Int))) (2 * j + 1):=Rat.div_mul_cancel (Rat.ne_of_gt kp)
    have ej : ((j + 1 : Nat) : Rat) = (j : Rat) + 1:=by push_cast; rfl
    rw [ej]
    have ea : ats (j + 1) (dq X (-(p : Int))) = ats j (dq X (-(p : Int))) + if evn j then rp (dq X (-(p : Int))) (2 * j + 1) / (((2 * j : Nat) : Rat) + 1) else -(rp (dq X (-(p : Int))) (2 * j + 1) / (((2 * j : Nat) : Rat) + 1)):=by
      show (sr evn j _ + if evn j then _ else 0) - (sr odn j _ + if (!evn j) = true then _ else 0) = sr evn j _ - sr odn j _ + _
      cases evn j <;> simp only [Bool.not_false, Bool.not_true, if_true, Bool.false_eq_true, if_false] <;> grind
    have es : dq (smA Q X p (j + 1)) (-(p : Int)) = dq (smA Q X p j) (-(p : Int)) + if evn j then dq (pwA Q X p j / (2 * (j : Int) + 1)) (-(p : Int)) else -dq (pwA Q X p j / (2 * (j : Int) + 1)) (-(p : Int)):=by
      show dq (smA Q X p j + if evn j then _ else _) (-(p : Int)) = _
      rw [dq_addI]
      congr 1
      cases evn j <;> simp only [if_true, Bool.false_eq_true, if_false]
      exact dq_neg _ _
    rw [ea, es]
    generalize rp (dq X (-(p : Int))) (2 * j + 1) / (((2 * j : Nat) : Rat) + 1) = R at *
    generalize rp (dq X (-(p : Int))) (2 * j + 1) = r at *
    generalize dq (pwA Q X p j / (2 * (j : Int) + 1)) (-(p : Int)) = t at *
    generalize dq (pwA Q X p j) (-(p : Int)) = w at *
    generalize ats j (dq X (-(p : Int))) = A at *
    generalize dq (smA Q X p j) (-(p : Int)) = S at *
    generalize dq 1 (-(p : Int)) = U at *
    generalize ((2 * j : Nat) : Rat) = k at *
    generalize (j : Rat) = m at *
    have c1 : t ≤ R:=le_of_mul kp (by rw [dv]; grind)
    have c2 : R ≤ t + 3 * U:=by
      refine le_of_mul kp ?_
      rw [dv]
      have:=Rat.mul_nonneg kn (Rat.le_of_lt u)
      grind
    clear ea es dv f1 f2 ek
    split <;> constructor <;> grind
theorem ser_near {X Q : Int} {p n : Nat} (h : SmX X Q p) (hn : pwA Q X p n = 0) {y : Rat} (y0 : 0 < y) (y1 : y ≤ 1 / 2) (h1 : dq X (-(p : Int)) ≤ y + dq 1 (-(p : Int))) (h2 : y ≤ dq X (-(p : Int)) + dq 1 (-(p : Int))) :
  LoC (dq (smA Q X p n) (-(p : Int)) - (3 * (n : Rat) + 6) * dq 1 (-(p : Int))) y⁻¹ ∧ UpC y⁻¹ (dq (smA Q X p n) (-(p : Int)) + (3 * (n : Rat) + 6) * dq 1 (-(p : Int))):=by
 have u:=dq_pos (-(p : Int))
 obtain ⟨_, b2⟩:=pw_bd h n
 rw [hn, dq_zero] at b2
 obtain ⟨s1, s2⟩:=sm_bd h n
 have x0 : 0 ≤ dq X (-(p : Int)):=by have:=(dq_le_iff 0 X (-(p : Int))).2 h.nn; rwa [dq_zero] at this
 have x1 : dq X (-(p : Int)) ≤ 1 / 4:=by
  have t:=two_cast p
  have e:=Rat.intCast_le_intCast.2 h.lt
  rw [Rat.intCast_mul, show ((1024 : Int) : Rat) = 1024 from rfl] at e
  have m:=Rat.mul_le_mul_of_nonneg_right e (Rat.le_of_lt u)
  rw [t] at m
  rw [dq_scale] at x0 ⊢
  grind
 exact at_beside n (Rat.le_of_lt u) x0 x1 y0 y1 h1 h2 (by grind) s1 s2

theorem kd_le9 {c d : Rat} (hd : 0 < d) (h : d * (d - 2 * c) ≤ 1) : kd d ≤ c:=by
 have e:=kd_eq hd
 refine le_of_mul (c:=2 * d) (by grind) ?_
 rw [e]
 grind
theorem le_kd9 {c d : Rat} (hd : 0 < d) (h : 1 ≤ d * (d - 2 * c)) : c ≤ kd d:=by
 have e:=kd_eq hd
 refine le_of_mul (c:=2 * d) (by grind) ?_
 rw [e]
 grind
structure SqI (C S : Int) (p : Nat) : Prop where
 nn : 0 ≤ S
 lo : S * S ≤ C * C + 2 ^ p * 2 ^ p
 hi : C * C + 2 ^ p * 2 ^ p + 1 ≤ (S + 1) * (S + 1)
theorem sq_int (C : Int) (p : Nat) : cutQ (dq C (-(p : Int)) * dq C (-(p : Int)) + 1) (2 * (p : Int)) = C * C + 2 ^ p * 2 ^ p:=by
 have e1 : dq C (-(p : Int)) * dq C (-(p : Int)) + 1 = dq (C * C + 2 ^ p * 2 ^ p) (-(2 * (p : Int))):=by
  have h1:=dq_mul C (-(p : Int)) C (-(p : Int))
  have h2:=dq_mul (2 ^ p) (-(p : Int)) (2 ^ p) (-(p : Int))
  have h3 : dq (2 ^ p) (-(p : Int)) = 1:=by rw [dq_scale]; exact two_cast p
  rw [h3, Rat.mul_one] at h2
  rw [dq_addI, show -(2 * (p : Int)) = -(p : Int) + -(p : Int) by omega, h1, h2]
 rw [e1]
 have:=cut_self (C * C + 2 ^ p * 2 ^ p) (2 * (p : Int))
 exact this
theorem sqi (C : Int) (p : Nat) : SqI C (sqR (dq C (-(p : Int)) * dq C (-(p : Int)) + 1) (p : Int)) p:=by
 have hn : (0 : Rat) ≤ dq C (-(p : Int)) * dq C (-(p : Int)) + 1:=by have:=rsq_nn (dq C (-(p : Int))); grind
 have h1:=sqR_le hn (p : Int)
 have h2:=sqR_lt hn (p : Int)
 rw [sq_int] at h1 h2
 exact ⟨sqR_nn _ _, h1, by omega⟩
theorem SqI.rat {C S : Int} {p : Nat} (h : SqI C S p) : 0 ≤ dq S (-(p : Int)) ∧ dq S (-(p : Int)) * dq S (-(p : Int)) ≤ dq C (-(p : Int)) * dq C (-(p : Int)) + 1 ∧ dq C (-(p : Int)) * dq C (-(p : Int)) + 1 ≤ (dq S (-(p : Int)) + dq 1 (-(p : Int))) * (dq S (-(p : Int)) + dq 1 (-(p : Int))):=by
 have m : ∀ x y : Int, x ≤ y → dq x (-(2 * (p : Int))) ≤ dq y (-(2 * (p : Int))):=fun x y h => (dq_le_iff _ _ _).2 h
 have e : ∀ x y : Int, dq (x * y) (-(2 * (p : Int))) = dq x (-(p : Int)) * dq y (-(p : Int)):=fun x y => by
  rw [show -(2 * (p : Int)) = -(p : Int) + -(p : Int) by omega, dq_mul]
 have h3 : dq (2 ^ p) (-(p : Int)) = 1:=by rw [dq_scale]; exact two_cast p
 have a:=m _ _ h.lo
 have b:=m _ _ (show C * C + 2 ^ p * 2 ^ p ≤ (S + 1) * (S + 1) by have:=h.hi; omega)
 rw [dq_addI, e, e, e, h3, Rat.mul_one] at a
 rw [dq_addI, e, e, e, h3, Rat.mul_one, dq_succ] at b
 refine ⟨?_, a, b⟩
 have:=(dq_le_iff 0 S (-(p : Int))).2 h.nn
 rwa [dq_zero] at this
theorem SqI.big {C S : Int} {p : Nat} (h : SqI C S p) (hC : 0 ≤ C) : C ≤ S ∧ 2 ^ p ≤ S ∧ S ≤ C + 2 ^ p:=by
 have hp:=pow2_pos p
 have h1:=h.hi
 have h2:=h.lo
 have h3:=h.nn
 generalize (2 : Int) ^ p = P at *
 have c0:=Int.mul_nonneg hC hC
 have p0:=Int.mul_pos hp hp
 refine ⟨?_, ?_, ?_⟩
 ·refine Int.not_lt.1 fun hlt => ?_
  have:=Int.mul_le_mul (show S + 1 ≤ C by omega) (show S + 1 ≤ C by omega) (by omega) hC
  omega
 ·refine Int.not_lt.1 fun hlt => ?_
  have:=Int.mul_le_mul (show S + 1 ≤ P by omega) (show S + 1 ≤ P by omega) (by omega) (by omega)
  omega
 ·refine Int.not_lt.1 fun hlt => ?_
  have:=Int.mul_le_mul (show C + P ≤ S by omega) (show C + P ≤ S by omega) (by omega) (by omega)
  have e : (C + P) * (C + P) = C * C + P * P + 2 * (C * P):=by rw [Int.add_mul, Int.mul_add, Int.mul_add, Int.mul_comm P C]; omega
  have:=Int.mul_nonneg hC (Int.le_of_lt hp)
  have e2:=Int.mul_le_mul (show C + P + 1 ≤ S by omega) (show C + P + 1 ≤ S by omega) (by omega) (by omega)
  have e3 : (C + P + 1) * (C + P + 1) = (C + P) * (C + P) + 2 * (C + P) + 1:=by rw [Int.add_mul, Int.mul_add]; omega
  omega
theorem rp2_ge (j : Nat) : 1 ≤ rp 2 j:=by
 induction j with
 | zero => exact Rat.le_refl
 | succ j ih => show 1 ≤ rp 2 j * 2; grind
theorem rp2_cast (j : Nat) : (((2 : Int) ^ j : Int) : Rat) = rp 2 j:=by
  induction j with
  | zero => rfl
  | succ j ih =>
    rw [Int.pow_succ, Rat.intCast_mul, ih]
    rfl
theorem rp2_11 : ∀ k, k < 12 → rp 2 k ≤ 2048:=by decide +kernel
structure HvI (p : Nat) (C0 : Int) (j : Nat) (C : Int) : Prop where
 up : ∀ b, UpC (dq C (-(p : Int))) b → UpC (dq C0 (-(p : Int))) (rp 2 j * b)
 lo : ∀ a, LoC a (dq C (-(p : Int)) + (2 * rp 2 j - 1) * dq 1 (-(p : Int))) → LoC (rp 2 j * a) (dq C0 (-(p : Int)) + dq 1 (-(p : Int)))
 nn : 0 ≤ C
 big : 1 ≤ j → (2 : Int) ^ (p + j) ≤ 2 * C
theorem HvI.first {p : Nat} {C : Int} (h : 0 ≤ C) : HvI p C 0 C:=by
 refine ⟨fun b hb => ?_, fun a ha => ?_, h, by omega⟩
 ·show UpC _ (1 * b)
  rwa [Rat.one_mul]
 ·show LoC (1 * a) _
  rw [Rat.one_mul]
  rwa [show (2 * rp 2 0 - 1) * dq 1 (-(p : Int)) = dq 1 (-(p : Int)) by show (2 * 1 - 1) * dq 1 (-(p : Int)) = _; grind] at ha
theorem HvI.step {p j : Nat} {C0 C S : Int} (h : HvI p C0 j C) (hS : SqI C S p) : HvI p C0 (j + 1) (C + S):=by
  obtain ⟨s0, s1, s2⟩:=hS.rat
  obtain ⟨b1, b2, b3⟩:=hS.big h.nn
  have u:=dq_pos (-(p : Int))
  have c0 : 0 ≤ dq C (-(p : Int)):=by have:=(dq_le_iff 0 C (-(p : Int))).2 h.nn; rwa [dq_zero] at this
  have s9 : dq C (-(p : Int)) ≤ dq S (-(p : Int)):=(dq_le_iff _ _ _).2 b1
  have one : 1 ≤ dq S (-(p : Int)):=by
    have:=(dq_le_iff _ _ (-(p : Int))).2 b2
    rwa [dq_scale, two_cast] at this
  have r1:=rp2_ge j
  refine ⟨fun b hb => ?_, fun a ha => ?_, by have:=h.nn; have:=hS.nn; omega, fun _ => ?_⟩
  · rw [dq_addI] at hb
    have d:=hb.dbl (c:=dq C (-(p : Int))) (by grind) (kd_le9 (by grind) (by grind))
    have:=h.up _ d
    rwa [show rp 2 j * (2 * b) = rp 2 (j + 1) * b by show _ = rp 2 j * 2 * b; grind] at this
  · rw [dq_addI, show 2 * rp 2 (j + 1) - 1 = 2 * (2 * rp 2 j - 1) + 1 by show 2 * (rp 2 j * 2) - 1 = _; grind] at ha
    have hE : 0 ≤ (2 * rp 2 j - 1) * dq 1 (-(p : Int)):=Rat.mul_nonneg (by grind) (Rat.le_of_lt u)
    have d:=ha.dbl (c:=dq C (-(p : Int)) + (2 * rp 2 j - 1) * dq 1 (-(p : Int))) (by
      generalize 2 * rp 2 j - 1 = E at *
      have : (2 * E + 1) * dq 1 (-(p : Int)) = 2 * (E * dq 1 (-(p : Int))) + dq 1 (-(p : Int)):=by grind
      rw [this]; grind) (le_kd9 (by
      generalize 2 * rp 2 j - 1 = E at *
      have : (2 * E + 1) * dq 1 (-(p : Int)) = 2 * (E * dq 1 (-(p : Int))) + dq 1 (-(p : Int)):=by grind
      rw [this]; grind) (by
      generalize 2 * rp 2 j - 1 = E at *
      have e1 : (2 * E + 1) * dq 1 (-(p : Int)) = 2 * (E * dq 1 (-(p : Int))) + dq 1 (-(p : Int)):=by grind
      rw [e1]
      generalize E * dq 1 (-(p : Int)) = e at *
      generalize dq C (-(p : Int)) = c at *
      generalize dq S (-(p : Int)) = s at *
      generalize dq 1 (-(p : Int)) = U at *
      clear ha e1 r1
      have m:=Rat.mul_nonneg hE (show 0 ≤ s + U - c by grind)
      grind))
    have:=h.lo _ d
    rwa [show rp 2 j * (2 * a) = rp 2 (j + 1) * a by show _ = rp 2 j * 2 * a; grind] at this
  · have e : (2 : Int) ^ (p + (j + 1)) = 2 ^ (p + j) * 2:=by rw [← Nat.add_assoc, Int.pow_succ]
    rw [e]
    cases j with
    | zero =>
      have:=h.nn
      show 2 ^ p * 2 ≤ _
      omega
    | succ j =>
      have:=h.big (by omega)
      omega
theorem HvI.le {p j : Nat} {C0 C : Int} (h : HvI p C0 j C) (hC : C < 1024 * 2 ^ p) : j ≤ 10:=by
 refine Nat.not_lt.1 fun hlt => ?_
 have b:=h.big (by omega)
 have e : (2 : Int) ^ (p + 11) ≤ 2 ^ (p + j):=by
  have : (2 : Nat) ^ (p + 11) ≤ 2 ^ (p + j):=Nat.pow_le_pow_right (by omega) (by omega)
  exact_mod_cast this
 rw [Int.pow_add] at e
 have : (2 : Int) ^ 11 = 2048:=rfl
 omega
def AgI (p : Nat) (C0 Z : Int) : Prop:=LoC (dq (Z - 2097152) (-(p : Int))) (dq C0 (-(p : Int)) + dq 1 (-(p : Int))) ∧ UpC (dq C0 (-(p : Int))) (dq (Z + 2097152) (-(p : Int)))
theorem dq_sub9 (a b e : Int) : dq (a - b) e = dq a e - dq b e:=by rw [Int.sub_eq_add_neg, dq_addI, dq_neg, Rat.sub_eq_add_neg]
theorem ang_end {p k n : Nat} {C0 C X Q : Int} (h : HvI p C0 k C) (hk : k ≤ 11) (hC : 1024 * 2 ^ p ≤ C) (hX : SmX X Q p) (x1 : dq X (-(p : Int)) * dq C (-(p : Int)) ≤ 1) (x2 : 1 ≤ (dq X (-(p : Int)) + dq 1 (-(p : Int))) * dq C (-(p : Int))) (hn : pwA Q X p n = 0) (n3 : n ≤ 300) : AgI p C0 (smA Q X p n * 2 ^ k):=by
 have u:=dq_pos (-(p : Int))
 have hc : 1024 ≤ dq C (-(p : Int)):=by
  have:=(dq_le_iff _ _ (-(p : Int))).2 hC
  rw [dq_scale (1024 * 2 ^ p), Rat.intCast_mul, Rat.mul_assoc, two_cast, Rat.mul_one] at this
  exact this
 have x0 : 0 ≤ dq X (-(p : Int)):=by have:=(dq_le_iff 0 X (-(p : Int))).2 hX.nn; rwa [dq_zero] at this
 have r1:=rp2_ge k
 have r2:=rp2_11 k (by omega)
 have n1 : 3 * (n : Rat) + 6 ≤ 1024:=by
  have : (n : Rat) ≤ 300:=by exact_mod_cast n3
  grind
 have n0:=nat_nn n
 have ez : dq (smA Q X p n * 2 ^ k) (-(p : Int)) = rp 2 k * dq (smA Q X p n) (-(p : Int)):=by
  rw [dq_scale, dq_scale (smA Q X p n), Rat.intCast_mul, rp2_cast]
  grind
 have eM : dq 2097152 (-(p : Int)) = 2097152 * dq 1 (-(p : Int)):=dq_scale _ _
 have cost : rp 2 k * ((3 * (n : Rat) + 6) * dq 1 (-(p : Int))) ≤ 2097152 * dq 1 (-(p : Int)):=by
  have m1:=rmul_le r2 n1 (by grind) (by grind)
  have m2:=Rat.mul_le_mul_of_nonneg_right m1 (Rat.le_of_lt u)
  grind
 have inv : ∀ c y : Rat, 0 < c → y * c ≤ 1 → y ≤ c⁻¹:=fun c y c0 h => by
  refine le_of_mul c0 ?_
  rw [Rat.inv_mul_cancel _ (Rat.ne_of_gt c0)]
  exact h
 have inv2 : ∀ c y : Rat, 0 < c → 1 ≤ y * c → c⁻¹ ≤ y:=fun c y c0 h => by
  refine le_of_mul c0 ?_
  rw [Rat.inv_mul_cancel _ (Rat.ne_of_gt c0)]
  exact h
 have s9:=@ser_near X Q p n hX hn
 refine ⟨?_, ?_⟩
 ·-- below: at the cotangent C + e
  have hE0 : 0 ≤ (2 * rp 2 k - 1) * dq 1 (-(p : Int)):=Rat.mul_nonneg (by grind) (Rat.le_of_lt u)
  have hE1 : (2 * rp 2 k - 1) * dq 1 (-(p : Int)) ≤ 4095 * dq 1 (-(p : Int)):=Rat.mul_le_mul_of_nonneg_right (by grind) (Rat.le_of_lt u)
  have l:=h.lo (dq (smA Q X p n) (-(p : Int)) - (3 * (n : Rat) + 6) * dq 1 (-(p : Int)))
  generalize (2 * rp 2 k - 1) * dq 1 (-(p : Int)) = e at *
  have cp : 0 < dq C (-(p : Int)) + e:=by grind
  have y0 : 0 < (dq C (-(p : Int)) + e)⁻¹:=Rat.inv_pos.2 cp
  have y1 : (dq C (-(p : Int)) + e)⁻¹ ≤ 1 / 2:=inv2 _ _ cp (by grind)
  have h1 : dq X (-(p : Int)) ≤ (dq C (-(p : Int)) + e)⁻¹ + dq 1 (-(p : Int)):=by
   have:=inv (dq C (-(p : Int)) + e) (dq X (-(p : Int)) - dq 1 (-(p : Int))) cp (by
    have xs : dq X (-(p : Int)) ≤ 1 / 1024:=by
     have m:=Rat.mul_le_mul_of_nonneg_left hc x0
     grind
    have m1 : dq X (-(p : Int)) * e ≤ 1 / 1024 * (4095 * dq 1 (-(p : Int))):=rmul_le xs hE1 hE0 (by grind)
    have m2:=Rat.mul_le_mul_of_nonneg_left hc (Rat.le_of_lt u)
    have m3:=Rat.mul_nonneg (Rat.le_of_lt u) hE0
    clear l y0 y1 inv inv2 s9
    grind)
   grind
  have h2 : (dq C (-(p : Int)) + e)⁻¹ ≤ dq X (-(p : Int)) + dq 1 (-(p : Int)):=inv2 _ _ cp (by
   have:=Rat.mul_nonneg (show 0 ≤ dq X (-(p : Int)) + dq 1 (-(p : Int)) by grind) hE0
   grind)
  have t:=(s9 y0 y1 h1 h2).1
  rw [Rat.inv_inv] at t
  have l2:=l t
  refine l2.mono ?_ Rat.le_refl
  rw [dq_sub9, ez, eM]
  clear l l2 t s9 inv inv2
  grind
 ·have cp : 0 < dq C (-(p : Int)):=by grind
  have y0 : 0 < (dq C (-(p : Int)))⁻¹:=Rat.inv_pos.2 cp
  have y1 : (dq C (-(p : Int)))⁻¹ ≤ 1 / 2:=inv2 _ _ cp (by grind)
  have h1 : dq X (-(p : Int)) ≤ (dq C (-(p : Int)))⁻¹ + dq 1 (-(p : Int)):=by
   have:=inv _ _ cp x1
   grind
  have h2 : (dq C (-(p : Int)))⁻¹ ≤ dq X (-(p : Int)) + dq 1 (-(p : Int)):=inv2 _ _ cp x2
  have t:=(s9 y0 y1 h1 h2).2
  rw [Rat.inv_inv] at t
  refine (h.up _ t).mono ?_ Rat.le_refl
  rw [dq_addI, ez, eM]
  clear t s9 inv inv2
  grind
def AtB (p : Nat) (Z : Int) (x : Rat) : Prop:=AtL (dq (Z - 2097152) (-(p : Int))) x ∧ AtU x (dq (Z + 2097152) (-(p : Int)))
theorem AtB.neg {p : Nat} {Z : Int} {x : Rat} (h : AtB p Z x) : AtB p (-Z) (-x):=by
 refine ⟨?_, ?_⟩
 ·have:=h.2.neg
  rwa [← dq_neg, show -(Z + 2097152) = -Z - 2097152 by omega] at this
 ·have:=h.1.neg
  rwa [← dq_neg, show -(Z - 2097152) = -Z + 2097152 by omega] at this
theorem AgI.at {p : Nat} {C0 Z : Int} {x : Rat} (h : AgI p C0 Z) (hx : 0 < x) (h1 : dq C0 (-(p : Int)) ≤ x⁻¹) (h2 : x⁻¹ ≤ dq C0 (-(p : Int)) + dq 1 (-(p : Int))) : AtB p Z x:=by
 refine ⟨Or.inl ⟨hx, h.1.mono Rat.le_refl h2⟩, Or.inr (Or.inr ⟨by grind, ?_⟩)⟩
 rw [Rat.neg_neg, Rat.neg_neg]
 exact h.2.mono Rat.le_refl h1
theorem sm_zero (Q : Int) (p n : Nat) : smA Q 0 p n = 0:=by
  have hz : ∀ j, pwA Q 0 p j = 0:=fun j => by
    induction j with
    | zero => rfl
    | succ j ih => show pwA Q 0 p j * Q / 2 ^ p = 0; rw [ih]; simp
  induction n with
  | zero => rfl
  | succ n ih =>
    show smA Q 0 p n + (if evn n then pwA Q 0 p n / (2 * (n : Int) + 1) else -(pwA Q 0 p n / (2 * (n : Int) + 1))) = 0
    rw [ih, hz]
    simp
theorem small_at {X Q : Int} {p n : Nat} (h : SmX X Q p) (hn : pwA Q X p n = 0) (n3 : n ≤ 300) {x : Rat} (x0 : 0 ≤ x) (x1 : x ≤ 1 / 1024) (h1 : dq X (-(p : Int)) ≤ x) (h2 : x ≤ dq X (-(p : Int)) + dq 1 (-(p : Int))) : AtB p (smA Q X p n) x:=by
 have u:=dq_pos (-(p : Int))
 have n1 : 3 * (n : Rat) + 6 ≤ 1024:=by
  have : (n : Rat) ≤ 300:=by exact_mod_cast n3
  grind
 have n0:=nat_nn n
 have eM : dq 2097152 (-(p : Int)) = 2097152 * dq 1 (-(p : Int)):=dq_scale _ _
 have cost:=Rat.mul_le_mul_of_nonneg_right n1 (Rat.le_of_lt u)
 by_cases hx : x = 0
 ·have hX : X = 0:=by
   have a:=h.nn
   have b:=(dq_le_iff X 0 (-(p : Int))).1 (by rw [dq_zero, ← hx]; exact h1)
   omega
  subst hX
  rw [sm_zero, hx]
  have e1 : dq (0 - 2097152) (-(p : Int)) ≤ 0:=by rw [dq_sub9, dq_zero, eM]; grind
  have e2 : 0 ≤ dq (0 + 2097152) (-(p : Int)):=by rw [Int.zero_add, eM]; grind
  exact ⟨Or.inr (Or.inl ⟨rfl, e1⟩), Or.inr (Or.inl ⟨by rw [Rat.neg_zero], by grind⟩)⟩
 ·have hx0 : 0 < x:=by grind
  obtain ⟨l, k⟩:=ser_near h hn hx0 (by grind) (by grind) h2
  refine ⟨Or.inl ⟨hx0, l.mono ?_ Rat.le_refl⟩, Or.inr (Or.inr ⟨by grind, ?_⟩)⟩
  ·rw [dq_sub9, eM]
   clear l k
   grind
  ·rw [Rat.neg_neg, Rat.neg_neg]
   refine k.mono ?_ Rat.le_refl
   rw [dq_addI, eM]
   clear l k
   grind
def EaA (k : Nat) (a : Int) (x : Rat) : Prop:=AtL (dq a (-(k : Int))) x ∧ AtU x (dq a (-(k : Int)) + 2 * dq 1 (-(k : Int)))
def EaB (k : Nat) (b : Int) (x : Rat) : Prop:=AtL (dq b (-(k : Int)) - 2 * dq 1 (-(k : Int))) x ∧ AtU x (dq b (-(k : Int)))
def atLo (Z : Int) : Int:=(Z - 2097152) / 2 ^ 32
def atHi (Z : Int) : Int := -(-(Z + 2097152) / 2 ^ 32)
theorem dq_32 {k p : Nat} (hp : p = k + 32) (y : Int) : dq y (-(k : Int)) = dq (y * 2 ^ 32) (-(p : Int)):=by
 refine dq_eq (F := -(p : Int)) ?_ (by omega) (by omega)
 rw [show (-(k : Int) - -(p : Int)).toNat = 32 by omega, show (-(p : Int) - -(p : Int)).toNat = 0 by omega]
 simp
theorem atLo_en {Z : Int} {k p : Nat} {x : Rat} (hp : p = k + 32) (h : AtB p Z x) : EaA k (atLo Z) x:=by
 unfold atLo
 refine ⟨h.1.mono ?_, h.2.mono ?_⟩
 ·rw [dq_32 hp]
  exact (dq_le_iff _ _ _).2 (by omega)
 ·rw [dq_32 hp, dq_32 hp 1, show 2 * dq (1 * 2 ^ 32) (-(p : Int)) = dq (2 * 2 ^ 32) (-(p : Int)) by rw [dq_scale, dq_scale (2 * 2 ^ 32), Rat.intCast_mul, Rat.intCast_mul]; grind, ← dq_addI]
  exact (dq_le_iff _ _ _).2 (by omega)
theorem atHi_en {Z : Int} {k p : Nat} {x : Rat} (hp : p = k + 32) (h : AtB p Z x) : EaB k (atHi Z) x:=by
 unfold atHi
 refine ⟨h.1.mono ?_, h.2.mono ?_⟩
 ·rw [dq_32 hp, dq_32 hp 1, show 2 * dq (1 * 2 ^ 32) (-(p : Int)) = dq (2 * 2 ^ 32) (-(p : Int)) by rw [dq_scale, dq_scale (2 * 2 ^ 32), Rat.intCast_mul, Rat.intCast_mul]; grind, ← dq_sub9]
  exact (dq_le_iff _ _ _).2 (by omega)
 ·rw [dq_32 hp]
  exact (dq_le_iff _ _ _).2 (by omega)
theorem pw_le {X Q : Int} {p : Nat} (h : SmX X Q p) (j : Nat) : pwA Q X p j ≤ X:=by
  induction j with
  | zero => exact Int.le_refl _
  | succ j ih =>
    have hp:=pow2_pos p
    have n:=pw_nn h j
    obtain ⟨q0, q1⟩:=h.q
    refine Int.le_trans ?_ ih
    show pwA Q X p j * Q / 2 ^ p ≤ pwA Q X p j
    refine Int.ediv_le_of_le_mul hp ?_
    exact Int.mul_le_mul_of_nonneg_left (by omega) n
theorem sm_abs {X Q : Int} {p : Nat} (h : SmX X Q p) (n : Nat) : (smA Q X p n).natAbs ≤ n * X.natAbs:=by
  induction n with
  | zero => exact Nat.zero_le _
  | succ n ih =>
    have e : smA Q X p (n + 1) = smA Q X p n + (if evn n then pwA Q X p n / (2 * (n : Int) + 1) else -(pwA Q X p n / (2 * (n : Int) + 1))):=rfl
    have a:=pw_nn h n
    have b:=pw_le h n
    have c : pwA Q X p n / (2 * (n : Int) + 1) ≤ pwA Q X p n:=Int.ediv_le_self _ a
    have d : 0 ≤ pwA Q X p n / (2 * (n : Int) + 1):=Int.ediv_nonneg a (by omega)
    have m : (n + 1) * X.natAbs = n * X.natAbs + X.natAbs:=by rw [Nat.add_mul, Nat.one_mul]
    rw [e, m]
    split <;> omega
theorem sm_ab {X Q : Int} {p : Nat} (h : SmX X Q p) {n : Nat} (n3 : n ≤ 300) : AbP (smA Q X p n) p:=by
 have a:=sm_abs h n
 have b:=h.lt
 have c:=h.nn
 have m : n * X.natAbs ≤ 300 * X.natAbs:=Nat.mul_le_mul_right _ n3
 have e : ((2 ^ p : Nat) : Int) = 2 ^ p:=by push_cast; rfl
 unfold AbP
 omega

def okA (p : Int) : Bool:=decide (0 ≤ p) && decide (p ≤ 4096)
theorem tperm_any (p : Int) (w : World) :
  Calls Tryz.prog 77 #[.int .i64 p] w (fun e w' => e = .returned (.bool (okA p)) ∧ w = w'):=by
 unfold okA
 by_cases q1 : 0 ≤ p
 ·have b1 : decide (0 ≤ p) = true:=decide_eq_true q1
  rw [b1, Bool.true_and]
  go_enter Tryz.func77, Tryz.ntmps77
  go_wp2_with fail
  go_ret
  exact ⟨rfl, rfl⟩
 ·have b1 : decide (0 ≤ p) = false:=decide_eq_false q1
  rw [b1, Bool.false_and]
  go_enter Tryz.func77, Tryz.ntmps77
  go_wp2_with fail
  go_ret
  exact ⟨rfl, rfl⟩
theorem tprod_any (M E N G F : Int) (p : Nat) (vx vy : Value) (w : World) (hx : IsD w vx M E) (hy : IsD w vy N G) (lm : zl M ≤ 150) (ln : zl N ≤ 150) (he : -4500 ≤ E ∧ E ≤ 4500) (hg : -4500 ≤ G ∧ G ≤ 4500) (hF : cutQ (dq M E * dq N G) (p : Int) = F) (hb : AbP F 10000) (hp : p ≤ 8192) (hT : Tab w) :
  Calls Tryz.prog 196 #[vx, vy, .int .i64 (p : Int)] w (RetD8 w (mkM F (-(p : Int))) (mkE F (-(p : Int)))):=by
 obtain ⟨A, c, rfl, _, hn⟩:=hx.form
 obtain ⟨B, d, rfl, _, hn2⟩:=hy.form
 have L0:=((Lq.mk0 w).n hn2).n hn
 have hz:=zl_mul M N
 have hr : mkR (M * N) (E + G) = 0:=mk_fits9 (by omega) (by omega) (by omega)
 have z1:=zl_mk (M * N) (E + G)
 have z2:=mkE_at hr (k:=300) (by omega)
 have hd:=dq_mk hr
 rw [dq_mul] at hd
 obtain ⟨M4, hM4⟩:=nm9 (mkM (M * N) (E + G))
 obtain ⟨E4, hE4⟩:=nm9 (mkE (M * N) (E + G))
 rw [hM4] at z1 hd
 rw [hE4] at z2 hd
 have g1:=fun x y W h j (hW : Below w.heap.size w W) => dmul_any M E N G x y W h j (by omega) (by omega) (by omega) (by omega) (hT.mono hW)
 rw [hM4, hE4, hr] at g1
 obtain ⟨y1, y2, y3⟩:=g_yes (permN (p:=p) (by omega)) F
 obtain ⟨n1, n2, n3, _, _⟩:=nx hb (by omega) (show -20000 ≤ -(p : Int) ∧ -(p : Int) ≤ 20000 by omega)
 have g2:=fun x W h (hW : Below w.heap.size w W) => gfloor_any M4 E4 (p : Int) x W h (by omega) (by omega) (by omega) (by omega) (hT.mono hW)
 rw [hd, hF, y1, y2, y3, n1] at g2
 clear y1 y2 y3 n1 n2 n3 hz hr z1 z2 hd hM4 hE4 lm ln he hg hb hp hT hF hx hy
 generalize mkM F (-(p : Int)) = Z at *
 generalize mkE F (-(p : Int)) = Q at *
 have G1:=Hd9 g1
 have G2:=Hd9 g2
 clear g1 g2
 go_enter Tryz.func196, Tryz.ntmps196
 have L:=(((L0.varD (w.heap.size) (by simp) (ng M) A (zl M) c E).varD (w.heap.size + 1) (by simp) (ng N) B (zl N) d G).varD (w.heap.size + 2) (by simp) false none 0 0 0)
 obtain ⟨c10,c11,c12⟩:=L.tl.b0.a3
 obtain ⟨c20,c21,c22⟩:=L.tl.tl.b0.a3
 (try go_wp2_with fail)
 refine (G1.out _ _ _ (isD_n (m:=M) (e:=E) (s:=.slice A (zl M) c) (L.getN (by simp))) (isD_n (m:=N) (e:=G) (s:=.slice B (zl N) d) (L.getN (by simp))) L.below).mono ?_
 rintro e w1 ⟨v9, rfl, iz, be⟩
 clear c10 c11 c12 c20 c21 c22
 obtain ⟨A4, c4, rfl, _, in9⟩:=iz.form
 replace L:=(L.step be).n in9
 clear be iz in9
 have hl9:=L.b0.lt
 replace L:=L.varD w1.heap.size rfl (ng M4) A4 (zl M4) c4 E4
 obtain ⟨c00,c01,c02⟩:=L.b0.a3
 go_wp2_with fail
 clear c00 c01 c02
 obtain ⟨g1, hg1⟩:=nm9 (w1.heap.size)
 rw [hg1] at L hl9 ⊢
 clear hg1
 have hl_g1:=hl9
 clear hl9
 refine (G2.out _ _ (isD_n (m:=M4) (e:=E4) (s:=.slice A4 (zl M4) c4) (L.getN (by simp))) L.below).mono ?_
 rintro e w2 ⟨v9, rfl, iz, be⟩
 obtain ⟨A5, c5, rfl, _, in9⟩:=iz.form
 replace L:=(L.step be).n in9
 clear be iz in9
 have hl9:=L.b0.lt
 have L9:=L.subx (ns':=[(.slice A5 (zl Z) c5, Z.natAbs)]) (bs':=[(w.heap.size + 1 + 1, 26, #[.bool false, .slice none 0 0, .int .i64 0])]) (by simp) (by simp)
 clear L
 have L:=L9
 clear L9
 have n9 : w.heap.size + 1 + 1 ≠ w2.heap.size:=by omega
 obtain ⟨c00,c01,c02⟩:=L.b0.a3
 obtain ⟨f00,f01,f02⟩:=L.b0.f3
 have LN:=L.varD w2.heap.size rfl (ng Z) A5 (zl Z) c5 Q
 obtain ⟨v0,v1,v2⟩:=LN.b0.a3
 obtain ⟨v3,v4,v5⟩:=LN.tl.b0.a3
 obtain ⟨v6,v7,v8⟩:=LN.tl.b0.f3
 go_wp2_with fail
 clear c00 f00 c01 f01 c02 f02
 clear v0 v1 v2 v3 v4 v5 v6 v7 v8
 clear L
 have L:=LN.swap
 clear LN
 have LP:=L.putD (by omega) (by first | (simp; done) | (simp; omega)) (ng Z) A5 (zl Z) c5 (Q)
 obtain ⟨k0,k1,k2⟩:=LP.b0.a3
 unfold put3 at k0 k1 k2
 exact bodyPost_ret (v:=.agg #[.bool (ng Z), .slice A5 (zl Z) c5, .int .i64 (Q)]) (by simp [results, Tryz.results196, go_sem, k0, k1, k2]) rfl ⟨_, rfl, isD_n (LP.getN (by simp)), LP.below⟩
theorem tsplit_any (p : Nat) (w : World) (hp : p ≤ 4096) :
  Calls Tryz.prog 197 #[.int .i64 (p : Int)] w (fun e w' => e = .returned (.tuple #[.int .i64 (p : Int), .int .i64 0]) ∧ w = w'):=by
 have m1 : min (p : Int) 4096 = (p : Int):=by omega
 have w1 : IntKind.i64.wrap ((p : Int) - (p : Int)) = 0:=by rw [Int.sub_self]; decide
 have w2 : IntKind.i64.wrap 0 = 0:=by decide
 have h1 : (p : Int) ≤ 4096:=by omega
 go_enter Tryz.func197, Tryz.ntmps197
 go_wp2_with fail
 exact bodyPost_ret (v:=.tuple #[.int .i64 (p : Int), .int .i64 0]) (by simp [results, Tryz.results197, go_sem]) rfl ⟨rfl, rfl⟩
theorem quo_bd {q : Rat} {p : Nat} (h0 : 0 ≤ q) (h1 : q ≤ 1024) : AbP (cutQ q (p : Int)) (p + 10) ∧ AbP (-(cutQ (-q) (p : Int))) (p + 10) ∧ 0 ≤ cutQ q (p : Int):=by
 have one : dq (2 ^ p) (-(p : Int)) = 1:=by rw [dq_scale]; exact two_cast p
 have big : dq (1024 * 2 ^ p) (-(p : Int)) = 1024:=by
  rw [dq_scale] at one ⊢
  rw [Rat.intCast_mul, Rat.mul_assoc, one, Rat.mul_one]
  rfl
 have a1:=cut_lo q (p : Int)
 have a2:=cut_hi q (p : Int)
 have b1:=cut_lo (-q) (p : Int)
 have b2:=cut_hi (-q) (p : Int)
 have u:=dq_pos (-(p : Int))
 have e : ((2 ^ (p + 10) : Nat) : Int) = 1024 * 2 ^ p:=by rw [Nat.pow_add]; push_cast; rw [Int.mul_comm]
 have n0 : 0 ≤ cutQ q (p : Int):=by
  refine Int.not_lt.1 fun hlt => ?_
  have:=(dq_le_iff (cutQ q (p : Int) + 1) 0 (-(p : Int))).2 (by omega)
  rw [dq_succ, dq_zero] at this
  grind
 have n1 : cutQ q (p : Int) ≤ 1024 * 2 ^ p:=(dq_le_iff _ _ (-(p : Int))).1 (by rw [big]; grind)
 have m0 : cutQ (-q) (p : Int) ≤ 0:=(dq_le_iff _ _ (-(p : Int))).1 (by rw [dq_zero]; grind)
 have m1 : -(1024 * 2 ^ p) ≤ cutQ (-q) (p : Int):=by
  refine Int.not_lt.1 fun hlt => ?_
  have:=(dq_le_iff (cutQ (-q) (p : Int) + 1) (-(1024 * 2 ^ p)) (-(p : Int))).2 (by omega)
  rw [dq_succ, dq_neg, big] at this
  grind
 unfold AbP
 exact ⟨by omega, by omega, n0⟩

theorem tquot_any (M E N G F : Int) (p : Nat) (vx vy : Value) (w : World) (hx : IsD w vx M E) (hy : IsD w vy N G) (hv : Dv M E) (hv2 : Dv N G) (lm : zl M ≤ 140) (ln : zl N ≤ 140) (he : -4000 ≤ E ∧ E ≤ 4000) (hg : -4000 ≤ G ∧ G ≤ 4000) (h0 : 0 ≤ dq M E) (h1 : dq M E ≤ 1) (h2 : 1 ≤ dq N G * 1024) (hF : cutQ (dq M E / dq N G) (p : Int) = F) (hp : p ≤ 4096) (hT : Tab w) :
  Calls Tryz.prog 146 #[vx, vy, .int .i64 (p : Int)] w (RetD8 w (mkM F (-(p : Int))) (mkE F (-(p : Int)))):=by
 obtain ⟨A, c, rfl, _, hn⟩:=hx.form
 obtain ⟨B, d, rfl, _, hn2⟩:=hy.form
 have L0:=((Lq.mk0 w).n hn2).n hn
 have gs:=fun W => tsplit_any p W (by omega)
 have GS:=Hd9 gs
 clear gs
 have wz1 : IntKind.i64.wrap (-(0 : Int)) = 0:=by decide
 have wz2 : IntKind.i64.wrap (2 * (0 : Int)) = 0:=by decide
 have wz3 : IntKind.i64.wrap 0 = 0:=by decide
 obtain ⟨s1, s2, s3⟩:=np_same hv (by omega) (by omega)
 have g1:=fun x W h (hW : Below w.heap.size w W) => dshift_any M E 0 x W h (by omega) (by omega) (by omega) (hT.mono hW)
 rw [s1, s2, s3] at g1
 have g2:=fun x W h => i10point_any M E x W h (by omega) (by omega) hv
 have g3:=fun x W h => i10point_any N G x W h (by omega) (by omega) hv2
 have hwk : workB (p : Int) = true:=by
  unfold workB
  rw [decide_eq_true (show (0 : Int) ≤ (p : Int) by omega), decide_eq_true (show (p : Int) ≤ 4096 by omega)]
  rfl
 have hq0 : 0 < dq N G:=by grind
 have hN0 : 0 < N:=(dq_gt0 N G).1 hq0
 obtain ⟨q, hq⟩:=nm9 (dq M E / dq N G)
 have hqm : q * dq N G = dq M E:=by rw [← hq]; exact Rat.div_mul_cancel (Rat.ne_of_gt hq0)
 have q0 : 0 ≤ q:=le_of_mul hq0 (by rw [hqm, Rat.zero_mul]; exact h0)
 have q1 : q ≤ 1024:=le_of_mul hq0 (by rw [hqm]; grind)
 obtain ⟨r2, r3, _⟩:=quo_bd (p:=p) q0 q1
 rw [hq] at hF
 rw [hF] at r2
 have g4:=fun x y W h j (hW : Below w.heap.size w W) => adiv_pos M E M E N G N G (p : Int) x y W h j (by omega) (by omega) (by omega) (by omega) (by omega) (by omega) (by omega) (by omega) (by rw [dcm_self]; omega) (by rw [dcm_self]; omega) (by omega) (by omega) (hT.mono hW) hwk rfl (by rw [cmpI_gt hN0]; omega) (by rw [cmpI_gt hN0]; omega)
 rw [hq] at g4
 have em : min4 q q q q = q:=by rcases min4_or q q q q with h | h | h | h <;> exact h
 have ex : max4 q q q q = q:=by rcases max4_or q q q q with h | h | h | h <;> exact h
 have z1:=r2.zl
 have z2:=r3.zl
 have hen:=fun W => RetEn.ok (lo:=q) (hi:=q) hwk (z:=3) (by rw [hF]; omega) (by omega) (by omega) Rat.le_refl W
 rw [em, ex] at g4
 simp only [hen] at g4
 unfold enM enE at g4
 rw [hF] at g4
 obtain ⟨f1, f2, f3, f4, f5⟩:=nx (x := -(p : Int)) r2 (by omega) (by omega)
 obtain ⟨X, hX⟩:=nm9 (mkM F (-(p : Int)))
 obtain ⟨Y, hY⟩:=nm9 (mkE F (-(p : Int)))
 rw [hX] at g4 f2 f4 f5 ⊢
 rw [hY] at g4 f3 f4 f5 ⊢
 obtain ⟨t1, t2, t3⟩:=np_same f4 (by omega) (by omega)
 have g5:=fun x W h (hW : Below w.heap.size w W) => dshift_any X Y 0 x W h (by omega) (by omega) (by omega) (hT.mono hW)
 rw [t1, t2, t3] at g5
 clear r2 r3 hwk hq0 hN0 em ex z1 z2 hen f1 f2 f3 f4 f5 t1 t2 t3 s1 s2 s3 hX hY hq hqm q0 q1 hp hT hF h0 h1 h2 lm ln he hg hv hv2 hx hy
 generalize upM q (p : Int) = UM at *
 generalize upE q (p : Int) = UE at *
 have G1:=Hd9 g1
 have G2:=Hd9 g2
 have G3:=Hd9 g3
 have G4:=Hd9 g4
 have G5:=Hd9 g5
 clear g1 g2 g3 g4 g5
 go_enter Tryz.func146, Tryz.ntmps146
 have L:=(((L0.varD (w.heap.size) (by simp) (ng M) A (zl M) c E).varD (w.heap.size + 1) (by simp) (ng N) B (zl N) d G).varD (w.heap.size + 2) (by simp) false none 0 0 0)
 (try go_wp2_with fail)
 refine (GS.out _).mono ?_
 rintro e9 w' ⟨rfl, rfl⟩
 obtain ⟨c20,c21,c22⟩:=L.tl.tl.b0.a3
 (try go_wp2_with fail)
 refine (G1.out _ _ (isD_n (m:=M) (e:=E) (s:=.slice A (zl M) c) (L.getN (by simp))) L.below).mono ?_
 rintro e w1 ⟨v9, rfl, iz, be⟩
 clear c20 c21 c22
 obtain ⟨A1, c1, rfl, _, in9⟩:=iz.form
 replace L:=(L.step be).n in9
 clear be iz in9
 have hl9:=L.b0.lt
 replace L:=L.varD w1.heap.size rfl (ng M) A1 (zl M) c1 E
 obtain ⟨c00,c01,c02⟩:=L.b0.a3
 (try go_wp2_with fail)
 clear c00 c01 c02
 obtain ⟨g1, hg1⟩:=nm9 (w1.heap.size)
 rw [hg1] at L hl9 ⊢
 clear hg1
 have hl_g1:=hl9
 clear hl9
 obtain ⟨V, hV, L9⟩:=L.name
 rw [hV]
 clear hV L
 have L:=L9
 clear L9
 have Q0:=Hd9 (fun Z (hZ : Below V.heap.size V Z) => (L.b0.mono hZ).c30)
 have Q1:=Hd9 (fun Z (hZ : Below V.heap.size V Z) => (L.b0.mono hZ).c31)
 have Q2:=Hd9 (fun Z (hZ : Below V.heap.size V Z) => (L.b0.mono hZ).c32)
 have Q3:=Hd9 (fun Z (hZ : Below V.heap.size V Z) => (L.tl.tl.b0.mono hZ).c30)
 have Q4:=Hd9 (fun Z (hZ : Below V.heap.size V Z) => (L.tl.tl.b0.mono hZ).c31)
 have Q5:=Hd9 (fun Z (hZ : Below V.heap.size V Z) => (L.tl.tl.b0.mono hZ).c32)
 have hb0:=L.b0.lt
 have hb1:=L.tl.tl.b0.lt
 have D0 : Dq V V [(.slice A1 (zl M) c1, (M : Int).natAbs), (.slice B (zl N) d, (N : Int).natAbs)] [] [] []:=⟨(((Lq.mk0 V).n (L.getN (v:=.slice B (zl N) d) (x:=(N : Int).natAbs) (by simp))).n (L.getN (v:=.slice A1 (zl M) c1) (x:=(M : Int).natAbs) (by simp))), List.nodup_nil, fun p hp => by cases hp⟩
 have D:=D0.drew
 have hVw:=L.below.size
 have HVW:=Hd9 (fun Z (hZ : Below V.heap.size V Z) => L.below.trans (hZ.mono hVw))
 have LL:=Hd9 L
 clear L
 obtain ⟨K, hK⟩:=nm9 (V.heap.size)
 have hz0 : K ≤ V.heap.size:=by omega
 have hmd : V.drew.heap.size = K:=hK
 have hc0 : g1 < K:=by omega
 have hc1 : w.heap.size + 1 < K:=by omega
 go_cut [11, 12] from 26 to 34 (fun s0 s1 wx => s1 = .int .i64 0 ∧ Made1I V X Y UM UE s0 wx)
 case first =>
  go_region_held3 (fun w' => w'.cell? ⟨g1, 0, none⟩ = some (.bool (ng M)) ∧ w'.cell? ⟨g1, 1, none⟩ = some (.slice A1 (zl M) c1) ∧ w'.cell? ⟨g1, 2, none⟩ = some (.int .i64 E) ∧ w'.cell? ⟨w.heap.size + 1, 0, none⟩ = some (.bool (ng N)) ∧ w'.cell? ⟨w.heap.size + 1, 1, none⟩ = some (.slice B (zl N) d) ∧ w'.cell? ⟨w.heap.size + 1, 2, none⟩ = some (.int .i64 G)) (((try dsimp only); refine ⟨?_, ?_, ?_, ?_, ?_, ?_⟩ <;> (repeat (first | (with_reducible exact Q0.out _ D.lq.below) | (with_reducible exact Q0.out _ D0.lq.below) | (with_reducible exact Q1.out _ D.lq.below) | (with_reducible exact Q1.out _ D0.lq.below) | (with_reducible exact Q2.out _ D.lq.below) | (with_reducible exact Q2.out _ D0.lq.below) | (with_reducible exact Q3.out _ D.lq.below) | (with_reducible exact Q3.out _ D0.lq.below) | (with_reducible exact Q4.out _ D.lq.below) | (with_reducible exact Q4.out _ D0.lq.below) | (with_reducible exact Q5.out _ D.lq.below) | (with_reducible exact Q5.out _ D0.lq.below) | (with_reducible refine c_alloc _ ?_) | (with_reducible refine c_drew ?_) | (with_reducible refine c_set ?_ (by assumption) ?_) | omega)))) (first | (go_at_call 182; (with_reducible refine (G2.out _ _ ?_).mono ?_); (· (first | (with_reducible refine isD_n (D.getN ?_); (repeat (first | (with_reducible exact mS) | apply mT))) | (with_reducible refine isD_n ((D.boxI false none 0 0 0 false none 0 0 0).getN ?_); (repeat (first | (with_reducible exact mS) | apply mT))) | (with_reducible refine isD_n ((D0.boxI false none 0 0 0 false none 0 0 0).drew.getN ?_); (repeat (first | (with_reducible exact mS) | apply mT))))); rintro e9 wh ⟨vh, rfl, ii, be⟩; obtain ⟨A2, c2, B2, d2, rfl, ia, ib⟩:=ii.form; (first | (replace D:=D.step be) | (replace D:=(D.boxMI hmd false none 0 0 0 false none 0 0 0).step be) | (replace D:=(D.boxI false none 0 0 0 false none 0 0 0).step be)); have hz:=be.size; (try simp at hz); replace D:=(D.n ib).n ia; (try (obtain ⟨x00,x01,x02,x03,x04,x05⟩:=D.lq.b0.a6; obtain ⟨y00,y01,y02,y03,y04,y05⟩:=D.lq.b0.f6)); (try obtain ⟨na, nb, nc, nd, nl⟩:=D.n0)) | (go_at_call 182; (with_reducible refine (G3.out _ _ ?_).mono ?_); (· (first | (with_reducible refine isD_n (D.getN ?_); (repeat (first | (with_reducible exact mS) | apply mT))) | (with_reducible refine isD_n ((D.boxI false none 0 0 0 false none 0 0 0).getN ?_); (repeat (first | (with_reducible exact mS) | apply mT))) | (with_reducible refine isD_n ((D0.boxI false none 0 0 0 false none 0 0 0).drew.getN ?_); (repeat (first | (with_reducible exact mS) | apply mT))))); rintro e9 wh ⟨vh, rfl, ii, be⟩; obtain ⟨A3, c3, B3, d3, rfl, ia, ib⟩:=ii.form; (first | (replace D:=D.step be) | (replace D:=(D.boxMI hmd false none 0 0 0 false none 0 0 0).step be) | (replace D:=(D.boxI false none 0 0 0 false none 0 0 0).step be)); have hz:=be.size; (try simp at hz); replace D:=(D.n ib).n ia; (try (obtain ⟨x00,x01,x02,x03,x04,x05⟩:=D.lq.b0.a6; obtain ⟨y00,y01,y02,y03,y04,y05⟩:=D.lq.b0.f6)); (try obtain ⟨na, nb, nc, nd, nl⟩:=D.n0)) | (go_at_call 181; (with_reducible refine (G4.out _ _ _ ?_ ?_ ?_).mono ?_); (· (first | (with_reducible refine isI_n (D.getN ?_) (D.getN ?_) <;> (repeat (first | (with_reducible exact mS) | apply mT))) | (with_reducible refine isI_n ((D.boxI false none 0 0 0 false none 0 0 0).getN ?_) ((D.boxI false none 0 0 0 false none 0 0 0).getN ?_) <;> (repeat (first | (with_reducible exact mS) | apply mT))) | (with_reducible refine isI_n ((D0.boxI false none 0 0 0 false none 0 0 0).drew.getN ?_) ((D0.boxI false none 0 0 0 false none 0 0 0).drew.getN ?_) <;> (repeat (first | (with_reducible exact mS) | apply mT))))); (· (first | (with_reducible refine isI_n (D.getN ?_) (D.getN ?_) <;> (repeat (first | (with_reducible exact mS) | apply mT))) | (with_reducible refine isI_n ((D.boxI false none 0 0 0 false none 0 0 0).getN ?_) ((D.boxI false none 0 0 0 false none 0 0 0).getN ?_) <;> (repeat (first | (with_reducible exact mS) | apply mT))) | (with_reducible refine isI_n ((D0.boxI false none 0 0 0 false none 0 0 0).drew.getN ?_) ((D0.boxI false none 0 0 0 false none 0 0 0).drew.getN ?_) <;> (repeat (first | (with_reducible exact mS) | apply mT))))); (· (first | (with_reducible exact HVW.out _ D.lq.below) | (with_reducible exact HVW.out _ (D.boxI false none 0 0 0 false none 0 0 0).lq.below) | (with_reducible exact HVW.out _ (D0.boxI false none 0 0 0 false none 0 0 0).drew.lq.below))); rintro e9 wh ⟨vh, rfl, ii, be⟩; obtain ⟨A4, c4, B4, d4, rfl, ia, ib⟩:=ii.form; (first | (replace D:=D.step be) | (replace D:=(D.boxMI hmd false none 0 0 0 false none 0 0 0).step be) | (replace D:=(D.boxI false none 0 0 0 false none 0 0 0).step be)); have hz:=be.size; (try simp at hz); replace D:=(D.n ib).n ia; (try (obtain ⟨x00,x01,x02,x03,x04,x05⟩:=D.lq.b0.a6; obtain ⟨y00,y01,y02,y03,y04,y05⟩:=D.lq.b0.f6)); (try obtain ⟨na, nb, nc, nd, nl⟩:=D.n0)))
  all_goals
   go_wp2_with fail
   go_meet
   refine ⟨rfl, ?_⟩
   first
   | ((with_reducible refine made1i_a D ?_ ?_) <;> (repeat (first | (with_reducible exact mS) | apply mT)))
   | ((with_reducible refine made1i_b D ?_ ?_) <;> (repeat (first | (with_reducible exact mS) | apply mT)))
 case rest =>
  obtain ⟨rfl, g2, A5, c5, B5, d5, rfl, hg9, bw, hb9, q1, q2⟩:=hcut
  have L:=(((LL.out.step bw).n q2).n q1).b hb9
  have hl_g2:=hg9
  clear D D0 hmd LL hb9 q1 q2 bw hg9 HVW Q0 Q1 Q2 Q3 Q4 Q5 hc0 hc1
  generalize wc = wd1 at *
  obtain ⟨c00,c01,c02,c03,c04,c05⟩:=L.b0.a6
  (try go_wp2_with fail)
  refine (G5.out _ _ (isD_n (m:=X) (e:=Y) (s:=.slice A5 (zl X) c5) (L.getN (by simp))) L.below).mono ?_
  rintro e w3 ⟨v9, rfl, iz, be⟩
  clear c00 c01 c02 c03 c04 c05
  obtain ⟨A6, c6, rfl, _, in9⟩:=iz.form
  replace L:=(L.step be).n in9
  clear be iz in9
  have hl9:=L.b0.lt
  have L9:=L.subx (ns':=[(.slice A6 (zl X) c6, X.natAbs)]) (bs':=[(w.heap.size + 1 + 1, 26, #[.bool false, .slice none 0 0, .int .i64 0])]) (by simp) (by simp)
  clear L
  have L:=L9
  clear L9
  have n9 : w.heap.size + 1 + 1 ≠ w3.heap.size:=by omega
  obtain ⟨c00,c01,c02⟩:=L.b0.a3
  obtain ⟨f00,f01,f02⟩:=L.b0.f3
  have LN:=L.varD w3.heap.size rfl (ng X) A6 (zl X) c6 Y
  obtain ⟨v0,v1,v2⟩:=LN.b0.a3
  obtain ⟨v3,v4,v5⟩:=LN.tl.b0.a3
  obtain ⟨v6,v7,v8⟩:=LN.tl.b0.f3
  go_wp2_with fail
  clear c00 f00 c01 f01 c02 f02
  clear v0 v1 v2 v3 v4 v5 v6 v7 v8
  clear L
  have L:=LN.swap
  clear LN
  have LP:=L.putD (by omega) (by first | (simp; done) | (simp; omega)) (ng X) A6 (zl X) c6 (Y)
  obtain ⟨k0,k1,k2⟩:=LP.b0.a3
  unfold put3 at k0 k1 k2
  exact bodyPost_ret (v:=.agg #[.bool (ng X), .slice A6 (zl X) c6, .int .i64 (Y)]) (by simp [results, Tryz.results146, go_sem, k0, k1, k2]) rfl ⟨_, rfl, isD_n (LP.getN (by simp)), LP.below⟩

theorem znn_any (x : Nat) (v : Value) (w : World) (h : IsN w v x) (hl : len x ≤ 1000000) : Calls Tryz.prog 208 #[.bool false, v] w (RetZ w (x : Int)):=by
 obtain ⟨A, n, c, rfl, hs⟩:=h
 have hn : len x = n:=by rw [← length_dig]; exact hs.len
 have:=znat_any false _ A n c w hs (by omega)
 rwa [val_dig] at this
theorem isZ_n {w : World} {s : Value} {z : Int} (h : IsN w s z.natAbs) : IsZ w (.agg #[.bool (ng z), s]) z:=⟨s, rfl, h⟩
theorem len_half {r a K : Nat} (h : r * r ≤ a) (ha : len a ≤ 2 * K) : len r ≤ K:=by
 refine len_le ?_
 have h1:=len_le_iff.1 ha
 rw [Nat.mul_comm, Nat.pow_mul, Nat.pow_two] at h1
 rcases Nat.lt_or_ge r (W32 ^ K) with h2 | h2
 ·exact h2
 ·have:=Nat.mul_le_mul h2 h2
  omega
theorem sq_size {m e k : Int} (lm : zl m ≤ 400) (he : -10000 ≤ e ∧ e ≤ 10000) (hm : 0 ≤ m) (hk : workB k = true) : 0 ≤ cutQ (dq m e) (2 * k) ∧ zl (cutQ (dq m e) (2 * k)) ≤ 970 ∧ zl (sqR (dq m e) k) ≤ 485 ∧ zl (sqU (dq m e) k) ≤ 486 ∧ mkR (cutQ (dq m e) (2 * k)) (-(2 * k)) = 0 ∧ mkR (sqR (dq m e) k) (-k) = 0 ∧ mkR (sqU (dq m e) k) (-k) = 0:=by
 obtain ⟨_, h0, h1⟩:=work_perm hk
 have c0:=cut_nn (dq_nn e hm) (2 * k)
 have c1:=zl_cutD m e (2 * k)
 have c2 : zl (cutQ (dq m e) (2 * k)) ≤ 970:=by omega
 have r0:=sqR_nn (dq m e) k
 have r1 : zl (sqR (dq m e) k) ≤ 485:=by
  have h:=sqR_le (dq_nn e hm) k
  have h2 : (sqR (dq m e) k).natAbs * (sqR (dq m e) k).natAbs ≤ (cutQ (dq m e) (2 * k)).natAbs:=by
   rw [← Int.natAbs_mul]
   have:=Int.mul_nonneg r0 r0
   omega
  exact len_half h2 (by exact Nat.le_trans c2 (by omega))
 have r2 : zl (sqU (dq m e) k) ≤ 486:=by
  have h:=su_le (dq m e) k
  have h2:=su_nn (dq m e) k
  have h3:=zl_add (sqR (dq m e) k) 1
  have h4 : zl 1 ≤ 1:=len_le1 (by decide)
  have h5 : zl (sqU (dq m e) k) ≤ zl (sqR (dq m e) k + 1):=len_mono (by omega)
  omega
 exact ⟨c0, c2, r1, r2, mk_fits2 (by omega) (by omega) (by omega), mk_fits2 (by omega) (by omega) (by omega), mk_fits2 (by omega) (by omega) (by omega)⟩
theorem mk_shl {C j : Int} (hj : 0 ≤ j) (h : mkR C (-j) = 0) : ∃ t : Nat, mkE C (-j) + j = (t : Int) ∧ mkM C (-j) * 2 ^ t = C ∧ t ≤ j.toNat + 32 * zl C:=by
 unfold mkE mkM
 rw [if_pos h, if_pos h]
 by_cases h0 : C = 0
 ·rw [if_pos h0]
  subst h0
  refine ⟨j.toNat, by omega, by rw [oddM_zero, Int.zero_mul], by omega⟩
 ·rw [if_neg h0]
  have ht:=tz_le8 C.natAbs (by omega)
  have e1 : zl C = len C.natAbs:=rfl
  exact ⟨tz C.natAbs, by unfold oddE; omega, odd_form C, by omega⟩
def RetSf (w : World) (m e k : Int) : Ending → World → Prop:=if workB k then (if m < 0 then RetDE w 0 0 4 else RetDE w (mkM (sqR (dq m e) k) (-k)) (mkE (sqR (dq m e) k) (-k)) 0) else RetDE w 0 0 1
theorem cmp_neg0 (m : Int) : cmpI m 0 < 0 ↔ m < 0:=by
 unfold cmpI
 (repeat' split) <;> omega
theorem RetDE.z {w w' : World} (h : Below w.heap.size w w') (er : Int) : RetDE w 0 0 er (.returned (.tuple #[.agg #[.bool false, .slice none 0 0, .int .i64 0], .int .i64 er])) w':=⟨_, rfl, isD_zero _, h⟩
theorem rdperm_any (p : Int) (w : World) :
  Calls Tryz.prog 241 #[.int .i64 p] w (fun e w' => e = .returned (.bool (workB p)) ∧ w = w'):=by
 unfold workB
 by_cases q1 : 0 ≤ p
 ·have b1 : decide (0 ≤ p) = true:=decide_eq_true q1
  rw [b1, Bool.true_and]
  go_enter Tryz.func241, Tryz.ntmps241
  go_wp2_with fail
  go_ret
  exact ⟨rfl, rfl⟩
 ·have b1 : decide (0 ≤ p) = false:=decide_eq_false q1
  rw [b1, Bool.false_and]
  go_enter Tryz.func241, Tryz.ntmps241
  go_wp2_with fail
  go_ret
  exact ⟨rfl, rfl⟩
theorem dsqrtf_any (m e k : Int) (vx : Value) (w : World) (hx : IsD w vx m e) (lm : zl m ≤ 400) (he : -10000 ≤ e ∧ e ≤ 10000) (hv : Dv m e) (hk1 : -9223372036854775808 ≤ k) (hk2 : k ≤ 9223372036854775807) (hT : Tab w) :
  Calls Tryz.prog 230 #[vx, .int .i64 k] w (RetSf w m e k):=by
 obtain ⟨A, c, rfl, _, hn1⟩:=hx.form
 have L0:=(Lq.mk0 w).n hn1
 have HW0:=fun W => rdperm_any k W
 unfold RetSf
 cases hw : workB k
 ·rw [if_neg (by decide)]
  rw [hw] at HW0
  have HW:=Hd9 HW0
  clear HW0 hx hn1 hw lm he hT
  go_enter Tryz.func230, Tryz.ntmps230
  go_wp2_with fail
  have L:=((L0.varD (w.heap.size) (by simp) (ng m) A (zl m) c e).varD (w.heap.size + 1) (by simp) false none 0 0 0)
  obtain ⟨c00,c01,c02⟩:=L.b0.a3
  obtain ⟨f00,f01,f02⟩:=L.b0.f3
  obtain ⟨c10,c11,c12⟩:=L.tl.b0.a3
  (try go_wp2_with fail)
  refine (HW.out _).mono ?_
  rintro e9 w' ⟨rfl, rfl⟩
  (try go_wp2_with fail)
  exact bodyPost_ret (v:=.tuple #[.agg #[.bool false, .slice none 0 0, .int .i64 0], .int .i64 1]) (by simp [results, Tryz.results230, go_sem, c00, c01, c02]) rfl (RetDE.z L.below _)
 ·rw [if_pos rfl]
  rw [hw] at HW0
  have HW:=Hd9 HW0
  have g1:=fun v W h => dsign_any m e v W h (by omega)
  have hc:=cmp_neg0 m
  obtain ⟨x1, hx1⟩:=nm9 (cmpI m 0)
  rw [hx1] at g1 hc
  have H1:=Hd9 g1
  clear HW0 g1 hx1
  by_cases hm : m < 0
  ·rw [if_pos hm]
   have b1 : decide (x1 < 0) = true:=decide_eq_true (hc.2 hm)
   clear hx hn1 hw lm he hT hc
   go_enter Tryz.func230, Tryz.ntmps230
   go_wp2_with fail
   have L:=((L0.varD (w.heap.size) (by simp) (ng m) A (zl m) c e).varD (w.heap.size + 1) (by simp) false none 0 0 0)
   obtain ⟨c00,c01,c02⟩:=L.b0.a3
   obtain ⟨f00,f01,f02⟩:=L.b0.f3
   obtain ⟨c10,c11,c12⟩:=L.tl.b0.a3
   (try go_wp2_with fail)
   refine (HW.out _).mono ?_
   rintro e9 w' ⟨rfl, rfl⟩
   (try go_wp2_with fail)
   refine (H1.out _ _ (isD_n (m:=m) (e:=e) (s:=.slice A (zl m) c) (L.getN (v:=.slice A (zl m) c) (x:=(m).natAbs) (by simp)))).mono ?_
   rintro e w1 ⟨rfl, be⟩
   clear c00 f00 c01 f01 c02 f02 c10 c11 c12
   replace L:=L.step be
   clear be
   obtain ⟨c00,c01,c02⟩:=L.b0.a3
   obtain ⟨f00,f01,f02⟩:=L.b0.f3
   obtain ⟨c10,c11,c12⟩:=L.tl.b0.a3
   (try go_wp2_with fail)
   have LP:=L.putD (by omega) (by first | (simp; done) | (simp; omega)) (false) none (0) 0 (0)
   obtain ⟨k0,k1,k2⟩:=LP.b0.a3
   unfold put3 at k0 k1 k2
   exact bodyPost_ret (v:=.tuple #[.agg #[.bool (false), .slice none (0) 0, .int .i64 (0)], .int .i64 4]) (by simp [results, Tryz.results230, go_sem, k0, k1, k2]) rfl (RetDE.z LP.below _)
  ·rw [if_neg hm]
   have b1 : decide (x1 < 0) = false:=decide_eq_false (fun h => hm (hc.1 h))
   obtain ⟨s0, s1, s2, _, s4, s5, _⟩:=sq_size lm he (Int.not_lt.1 hm) hw
   obtain ⟨_, k0, k1⟩:=work_perm hw
   have p2 : permB (2 * k) = true:=by unfold permB; rw [decide_eq_true (show -2048 ≤ 2 * k by omega), decide_eq_true (show 2 * k ≤ 8192 by omega)]; rfl
   have g2:=fun v W h (hW : Below w.heap.size w W) => gfloor_any m e (2 * k) v W h (by omega) (by omega) (by omega) (by omega) (hT.mono hW)
   rw [(g_yes p2 _).1, (g_yes p2 _).2.1, (g_yes p2 _).2.2, s4] at g2
   obtain ⟨t, t1, t2, t3⟩:=mk_shl (by omega) s4
   have z2:=zl_mk (cutQ (dq m e) (2 * k)) (-(2 * k))
   have g3:=fun v W h => zshl_any (mkM (cutQ (dq m e) (2 * k)) (-(2 * k))) v W h (by omega) t (by omega)
   rw [t2] at g3
   have g4:=fun v W h => sqrt_any (cutQ (dq m e) (2 * k)).natAbs v W h (show len (cutQ (dq m e) (2 * k)).natAbs ≤ 10000 from Nat.le_trans s1 (by omega))
   have g5:=fun v W h => znn_any (rt 2 (cutQ (dq m e) (2 * k)).natAbs) v W h (show len (rt 2 (cutQ (dq m e) (2 * k)).natAbs) ≤ 1000000 from Nat.le_trans s2 (by omega))
   have g6:=fun v W h (hW : Below w.heap.size w W) => dmake_any (sqR (dq m e) k) (-k) v W h (by omega) (hT.mono hW)
   rw [s5] at g6
   have e1 : (rt 2 (cutQ (dq m e) (2 * k)).natAbs : Int) = sqR (dq m e) k:=rfl
   rw [e1] at g5
   have bE:=mkE_in (cutQ (dq m e) (2 * k)) (2 * k) (by omega)
   obtain ⟨k2, hk2'⟩:=nm9 (2 * k)
   have w1 : IntKind.i64.wrap (2 * k) = k2:=by rw [IntKind.wrap_i64]; omega
   rw [hk2'] at g2 g3 g4 g5 t1 bE s1 z2
   obtain ⟨C, hC⟩:=nm9 (cutQ (dq m e) k2)
   rw [hC] at g2 g3 g4 g5 t1 bE s1 z2
   obtain ⟨M, hM⟩:=nm9 (mkM C (-k2))
   obtain ⟨E, hE⟩:=nm9 (mkE C (-k2))
   rw [hM] at g2 g3
   rw [hE] at g2 t1 bE
   have w2 : IntKind.i64.wrap (E + k2) = (t : Int):=by rw [IntKind.wrap_i64]; omega
   obtain ⟨j, hj⟩:=nm9 (-k)
   have w3 : IntKind.i64.wrap (-k) = j:=by rw [IntKind.wrap_i64]; omega
   rw [hj] at g6 ⊢
   obtain ⟨R, hR⟩:=nm9 (sqR (dq m e) k)
   rw [hR] at g5 g6 ⊢
   obtain ⟨N, hN⟩:=nm9 (mkM R j)
   obtain ⟨G, hG⟩:=nm9 (mkE R j)
   rw [hN, hG] at g6 ⊢
   obtain ⟨rr, hrr⟩:=nm9 (rt 2 C.natAbs)
   obtain ⟨rs, hrs⟩:=nm9 (C.natAbs - rt 2 C.natAbs * rt 2 C.natAbs)
   rw [hrs, hrr] at g4
   rw [hrr] at g5
   have H2:=Hd9 g2
   have H3:=Hd9 g3
   have H4:=Hd9 g4
   have H5:=Hd9 g5
   have H6:=Hd9 g6
   clear g2 g3 g4 g5 g6 e1 hC hM hE hR hN hG hrr hrs hj hk2' hx hn1 hw lm he hT hc s0 s1 s2 s4 s5 k0 k1 p2 t1 t2 t3 z2 bE hm
   go_enter Tryz.func230, Tryz.ntmps230
   go_wp2_with fail
   have L:=((L0.varD (w.heap.size) (by simp) (ng m) A (zl m) c e).varD (w.heap.size + 1) (by simp) false none 0 0 0)
   obtain ⟨c00,c01,c02⟩:=L.b0.a3
   obtain ⟨f00,f01,f02⟩:=L.b0.f3
   obtain ⟨c10,c11,c12⟩:=L.tl.b0.a3
   (try go_wp2_with fail)
   refine (HW.out _).mono ?_
   rintro e9 w' ⟨rfl, rfl⟩
   (try go_wp2_with fail)
   refine (H1.out _ _ (isD_n (m:=m) (e:=e) (s:=.slice A (zl m) c) (L.getN (v:=.slice A (zl m) c) (x:=(m).natAbs) (by simp)))).mono ?_
   rintro e w1 ⟨rfl, be⟩
   clear c00 f00 c01 f01 c02 f02 c10 c11 c12
   replace L:=L.step be
   clear be
   obtain ⟨c00,c01,c02⟩:=L.b0.a3
   obtain ⟨f00,f01,f02⟩:=L.b0.f3
   obtain ⟨c10,c11,c12⟩:=L.tl.b0.a3
   (try go_wp2_with fail)
   refine (H2.out _ _ (isD_n (m:=m) (e:=e) (s:=.slice A (zl m) c) (L.getN (v:=.slice A (zl m) c) (x:=(m).natAbs) (by simp))) L.below).mono ?_
   rintro e w2 ⟨vv, rfl, id, be⟩
   clear c00 f00 c01 f01 c02 f02 c10 c11 c12
   obtain ⟨A8, c8, rfl, _, in9⟩:=id.form
   replace L:=(L.step be).n in9
   clear be id in9
   have hlg8:=L.b0.lt
   replace L:=L.varD w2.heap.size rfl (ng M) A8 (zl M) c8 E
   obtain ⟨cel00,cel01,cel02⟩:=L.b0.a3
   go_wp2_with fail
   obtain ⟨g8, hg⟩:=nm9 (w2.heap.size)
   rw [hg] at L hlg8 cel00 cel01 cel02 ⊢
   clear hg
   clear cel00 cel01 cel02
   refine (H3.out _ _ (isZ_n (z:=M) (s:=.slice A8 (zl M) c8) (L.getN (by simp)))).mono ?_
   rintro e w3 ⟨vv, rfl, iz, be⟩
   replace L:=(L.step be).z iz
   obtain ⟨A7, c7, rfl, in9⟩:=iz.form
   replace L:=L.n in9
   clear be iz in9
   have hlg7:=L.b0.lt
   replace L:=L.varZ w3.heap.size rfl (ng C) A7 (zl C) c7
   obtain ⟨cel00,cel01⟩:=L.b0.a2
   go_wp2_with fail
   obtain ⟨g7, hg⟩:=nm9 (w3.heap.size)
   rw [hg] at L hlg7 cel00 cel01 ⊢
   clear hg
   clear cel00 cel01
   refine (H4.out _ _ (L.getN (v:=.slice A7 (zl C) c7) (x:=C.natAbs) (by simp))).mono ?_
   rintro e w4 ⟨vq, vr, rfl, oq, or_, be⟩
   replace L:=(L.step be).n (isN_of_own oq rfl)
   clear be oq or_
   (try go_wp2_with fail)
   refine (H5.out _ _ (L.getN (v:=vq) (x:=rr) (by simp))).mono ?_
   rintro e w5 ⟨vz, rfl, iz, be⟩
   replace L:=(L.step be).z iz
   clear be iz
   (try go_wp2_with fail)
   refine (H6.out _ _ (L.getZ (by simp)) L.below).mono ?_
   rintro e w6 ⟨vd, rfl, id, be⟩
   obtain ⟨A9, c9, rfl, _, in9⟩:=id.form
   replace L:=(L.step be).n in9
   clear be id in9
   replace L:=L.pick [(w.heap.size + 1, 26, #[.bool false, .slice none 0 0, .int .i64 0])] (by simp)
   obtain ⟨c00,c01,c02⟩:=L.b0.a3
   obtain ⟨f00,f01,f02⟩:=L.b0.f3
   go_wp2_with fail
   have LP:=L.putD (by omega) (by first | (simp; done) | (simp; omega)) (ng N) A9 (zl N) c9 (G)
   obtain ⟨k0,k1,k2⟩:=LP.b0.a3
   unfold put3 at k0 k1 k2
   exact bodyPost_ret (v:=.tuple #[.agg #[.bool (ng N), .slice A9 (zl N) c9, .int .i64 (G)], .int .i64 0]) (by simp [results, Tryz.results230, go_sem, k0, k1, k2]) rfl ⟨_, rfl, isD_n (LP.getN (by simp)), LP.below⟩
theorem rec_bd {x : Rat} {p b k : Nat} (h1 : 1 ≤ x) (hp : k + b = p) : cutQ (dq 1 (b : Int) / x) (k : Int) = cutQ (1 / x) (p : Int) ∧ AbP (cutQ (1 / x) (p : Int)) p ∧ AbP (-(cutQ (-(dq 1 (b : Int) / x)) (k : Int))) p ∧ dq (cutQ (1 / x) (p : Int)) (-(p : Int)) * x ≤ 1 ∧ 1 ≤ (dq (cutQ (1 / x) (p : Int)) (-(p : Int)) + dq 1 (-(p : Int))) * x ∧ 0 ≤ cutQ (1 / x) (p : Int):=by
 have hx : (0 : Rat) < x:=by grind
 have e1 : cutQ (dq 1 (b : Int) / x) (k : Int) = cutQ (1 / x) (p : Int):=by
  unfold cutQ
  congr 1
  have:=dq_mul 1 (b : Int) 1 (k : Int)
  rw [Int.one_mul, show (b : Int) + (k : Int) = (p : Int) by omega] at this
  rw [this, Rat.div_def, Rat.div_def]
  grind
 have iv : 1 / x * x = 1:=Rat.div_mul_cancel (Rat.ne_of_gt hx)
 have iv1 : 1 / x ≤ 1:=le_of_mul hx (by rw [iv]; grind)
 have iv0 : 0 < 1 / x:=by
  refine Rat.not_le.1 fun hle => ?_
  have:=Rat.mul_le_mul_of_nonneg_right hle (Rat.le_of_lt hx)
  rw [iv] at this
  grind
 have c1:=cut_lo (1 / x) (p : Int)
 have c2:=cut_hi (1 / x) (p : Int)
 have hu:=dq_pos (-(p : Int))
 have one : dq (2 ^ p) (-(p : Int)) = 1:=by rw [dq_scale]; exact two_cast p
 have nn : 0 ≤ cutQ (1 / x) (p : Int):=by
  refine Int.not_lt.1 fun hlt => ?_
  have:=(dq_le_iff (cutQ (1 / x) (p : Int) + 1) 0 (-(p : Int))).2 (by omega)
  rw [dq_succ, dq_zero] at this
  grind
 have up : cutQ (1 / x) (p : Int) ≤ 2 ^ p:=(dq_le_iff _ _ (-(p : Int))).1 (by rw [one]; exact Rat.le_trans c1 iv1)
 have ab : ∀ y : Int, 0 ≤ y → y ≤ 2 ^ p → AbP y p:=fun y h0 h9 => by
  unfold AbP
  have : ((2 ^ p : Nat) : Int) = 2 ^ p:=by push_cast; rfl
  omega
 refine ⟨e1, ab _ nn up, ?_, ?_, ?_, nn⟩
 ·have d1:=cut_lo (-(dq 1 (b : Int) / x)) (k : Int)
  have d2:=cut_hi (-(dq 1 (b : Int) / x)) (k : Int)
  have hb:=dq_pos (b : Int)
  have q1 : dq 1 (b : Int) / x ≤ dq 1 (b : Int):=by
   refine le_of_mul hx ?_
   rw [Rat.div_mul_cancel (Rat.ne_of_gt hx)]
   have:=Rat.mul_le_mul_of_nonneg_left h1 (Rat.le_of_lt hb)
   grind
  have q0 : 0 ≤ dq 1 (b : Int) / x:=by
   refine le_of_mul hx ?_
   rw [Rat.div_mul_cancel (Rat.ne_of_gt hx), Rat.zero_mul]
   exact Rat.le_of_lt hb
  refine ab _ ?_ ?_
  ·have:=(dq_le_iff (cutQ (-(dq 1 (b : Int) / x)) (k : Int)) 0 (-(k : Int))).1 (by rw [dq_zero]; grind)
   omega
  ·have e : dq (-(2 ^ p)) (-(k : Int)) = -dq 1 (b : Int):=by
    rw [dq_neg]
    congr 1
    refine dq_eq (F := -(k : Int)) ?_ (by omega) (by omega)
    rw [show (-(k : Int) - -(k : Int)).toNat = 0 by omega, show ((b : Int) - -(k : Int)).toNat = p by omega]
    simp
   have h9 : dq (-(2 ^ p)) (-(k : Int)) < dq (cutQ (-(dq 1 (b : Int) / x)) (k : Int) + 1) (-(k : Int)):=by
    rw [e, dq_succ]
    grind
   have h8 : ¬ (cutQ (-(dq 1 (b : Int) / x)) (k : Int) + 1 ≤ -(2 ^ p)):=fun h => Rat.not_le.2 h9 ((dq_le_iff _ _ _).2 h)
   omega
 ·have:=Rat.mul_le_mul_of_nonneg_right c1 (Rat.le_of_lt hx)
  rw [iv] at this
  exact this
 ·have:=Rat.mul_le_mul_of_nonneg_right (Rat.le_of_lt c2) (Rat.le_of_lt hx)
  rw [iv] at this
  exact this
theorem near_bd (q : Rat) (p : Nat) {Mi : Int} (h : (cutQ q ((p : Int) + 1) + 1) / 2 = Mi) : q ≤ dq Mi (-(p : Int)) + dq 1 (-(p : Int)) ∧ dq Mi (-(p : Int)) ≤ q + dq 1 (-(p : Int)):=by
 have c1:=cut_lo q ((p : Int) + 1)
 have c2:=cut_hi q ((p : Int) + 1)
 obtain ⟨c, hc⟩:=nm9 (cutQ q ((p : Int) + 1))
 rw [hc] at h c1 c2
 have e : ∀ X : Int, dq X (-(p : Int)) = dq (2 * X) (-((p : Int) + 1)):=fun X => by
  refine dq_eq (F := -((p : Int) + 1)) ?_ (by omega) (by omega)
  rw [show (-(p : Int) - -((p : Int) + 1)).toNat = 1 by omega, show (-((p : Int) + 1) - -((p : Int) + 1)).toNat = 0 by omega]
  omega
 rw [e Mi, e 1, ← dq_succ] at *
 have hv:=dq_pos (-((p : Int) + 1))
 have h1:=(dq_le_iff (c + 1) (2 * Mi + 1) (-((p : Int) + 1))).2 (by omega)
 have h2:=(dq_le_iff (2 * Mi) (c + 1) (-((p : Int) + 1))).2 (by omega)
 have e2 : dq (2 * 1) (-((p : Int) + 1)) = dq 1 (-((p : Int) + 1)) + dq 1 (-((p : Int) + 1)):=by
  rw [← dq_addI]; rfl
 rw [e2]
 rw [dq_succ] at h1 h2 c2
 rw [dq_succ] at h1
 generalize dq c (-((p : Int) + 1)) = x at *
 generalize dq (2 * Mi) (-((p : Int) + 1)) = y at *
 generalize dq 1 (-((p : Int) + 1)) = v at *
 clear e e2 hc
 constructor <;> grind
theorem abp_in {y : Int} {p : Nat} (h0 : -(2 ^ p) ≤ y) (h : y ≤ 2 ^ p) : AbP y p:=by
 unfold AbP
 have : ((2 ^ p : Nat) : Int) = 2 ^ p:=by push_cast; rfl
 omega
theorem dq_abp {y : Int} {p : Nat} (h0 : -1 ≤ dq y (-(p : Int))) (h : dq y (-(p : Int)) ≤ 1) : AbP y p:=by
 refine abp_in ((dq_le_iff _ _ (-(p : Int))).1 ?_) ((dq_le_iff _ _ (-(p : Int))).1 ?_)
 ·rw [dq_neg, one_p]; exact h0
 ·rw [one_p]; exact h
theorem u1000 {p : Nat} (h : 32 ≤ p) : dq 1 (-(p : Int)) ≤ 1 / 1000:=by
 refine Rat.le_trans (dq_anti (a := -(p : Int)) (b := -10) (by omega)) ?_
 decide +kernel
theorem nxc {T x : Int} {j : Nat} (B : Int) (h : AbP T j) (hj : j ≤ 20000) (hx : -4500 ≤ x ∧ x ≤ 0) (hB0 : 0 ≤ B) (hB : x + (j : Int) + 32 ≤ B) :
  mkR T x = 0 ∧ zl (mkM T x) ≤ j / 32 + 1 ∧ (-4500 ≤ mkE T x ∧ mkE T x ≤ B) ∧ Dv (mkM T x) (mkE T x) ∧ dq (mkM T x) (mkE T x) = dq T x:=by
 obtain ⟨a1, a2, a3, a4, a5⟩:=nx (x:=x) h hj (by omega)
 exact ⟨a1, a2, by omega, a4, a5⟩
theorem nx_sub {s t x : Int} {j : Nat} (h1 : AbP s j) (h2 : AbP t j) (hj : j ≤ 6000) (hx : -6000 ≤ x ∧ x ≤ 100) :
  mkR (addS (mkM s x) (mkE s x) (-(mkM t x)) (mkE t x)) (min (mkE s x) (mkE t x)) = 0 ∧
  mkM (addS (mkM s x) (mkE s x) (-(mkM t x)) (mkE t x)) (min (mkE s x) (mkE t x)) = mkM (s - t) x ∧
  mkE (addS (mkM s x) (mkE s x) (-(mkM t x)) (mkE t x)) (min (mkE s x) (mkE t x)) = mkE (s - t) x:=by
 obtain ⟨a1, a2, a3, a4, a5⟩:=nx (x:=x) h1 (by omega) (by omega)
 obtain ⟨b1, b2, b3, b4, b5⟩:=nx (x:=x) h2 (by omega) (by omega)
 have hn:=zl_neg (mkM t x)
 have hz:=zl_addS (mkM s x) (mkE s x) (-(mkM t x)) (mkE t x) 7500 (by omega) (by omega)
 obtain ⟨c1, _⟩:=nx (x:=x) (h1.add h2.neg) (by omega) (by omega)
 rw [← Int.sub_eq_add_neg] at c1
 have hr : mkR (addS (mkM s x) (mkE s x) (-(mkM t x)) (mkE t x)) (min (mkE s x) (mkE t x)) = 0:=mk_fits9 (by omega) (by omega) (by omega)
 exact ⟨hr, mk_uniq hr c1 (by rw [dq_add, dq_neg, a5, b5, Int.sub_eq_add_neg, dq_addI, dq_neg])⟩
structure LgN (q : Rat) (p : Nat) (Mi R Z Q : Int) : Prop where
 mi : (cutQ q ((p : Int) + 1) + 1) / 2 = Mi
 r : cutQ (1 / dq (Mi + 2 ^ p) (-(p : Int))) (p : Int) = R
 z : cutQ (dq (Mi - 2 ^ p) (-(p : Int)) * dq R (-(p : Int))) (p : Int) = Z
 q : cutQ (dq Z (-(p : Int)) * dq Z (-(p : Int))) (p : Int) = Q
structure LgB (q : Rat) (p : Nat) (Mi R Z Q : Int) : Prop where
 d1 : q ≤ dq Mi (-(p : Int)) + dq 1 (-(p : Int))
 d2 : dq Mi (-(p : Int)) ≤ q + dq 1 (-(p : Int))
 r1 : dq R (-(p : Int)) * (dq Mi (-(p : Int)) + 1) ≤ 1
 r2 : 1 ≤ (dq R (-(p : Int)) + dq 1 (-(p : Int))) * (dq Mi (-(p : Int)) + 1)
 z1 : dq Z (-(p : Int)) ≤ (dq Mi (-(p : Int)) - 1) * dq R (-(p : Int))
 z2 : (dq Mi (-(p : Int)) - 1) * dq R (-(p : Int)) ≤ dq Z (-(p : Int)) + dq 1 (-(p : Int))
 z3 : -(1 / 4) ≤ dq Z (-(p : Int))
 z4 : dq Z (-(p : Int)) ≤ 1 / 4
 q1 : dq Q (-(p : Int)) ≤ dq Z (-(p : Int)) * dq Z (-(p : Int))
 q2 : dq Z (-(p : Int)) * dq Z (-(p : Int)) ≤ dq Q (-(p : Int)) + dq 1 (-(p : Int))
 am : AbP Mi (p + 1)
 aA : AbP (Mi + 2 ^ p) (p + 2)
 aB : AbP (Mi - 2 ^ p) (p + 2)
 a1 : 1 ≤ dq (Mi + 2 ^ p) (-(p : Int))
 aR : AbP R p
 aZ : AbP Z p
 q0 : 0 ≤ Q
 q16 : 16 * Q < 2 ^ p
theorem LgN.all {q : Rat} {p : Nat} {Mi R Z Q : Int} (h : LgN q p Mi R Z Q) (hq1 : 3 / 4 ≤ q) (hq2 : q ≤ 3 / 2) (hp : 32 ≤ p) : LgB q p Mi R Z Q:=by
 obtain ⟨h1, h2, h3, h4⟩:=h
 have hu:=dq_pos (-(p : Int))
 have hu1:=u1000 hp
 obtain ⟨d1, d2⟩:=near_bd q p h1
 have eA : dq (Mi + 2 ^ p) (-(p : Int)) = dq Mi (-(p : Int)) + 1:=by rw [dq_addI, one_p]
 have eB : dq (Mi - 2 ^ p) (-(p : Int)) = dq Mi (-(p : Int)) - 1:=by rw [Int.sub_eq_add_neg, dq_addI, dq_neg, one_p, Rat.sub_eq_add_neg]
 have a1 : 1 ≤ dq (Mi + 2 ^ p) (-(p : Int)):=by
  rw [eA]
  generalize dq Mi (-(p : Int)) = x at *
  generalize dq 1 (-(p : Int)) = u at *
  clear h1 h2 h3 h4 eA eB
  grind
 obtain ⟨_, r2, _, r4, r5, r6⟩:=rec_bd (p:=p) (b:=0) (k:=p) a1 (by omega)
 rw [h2] at r2 r4 r5
 rw [eA] at r4 r5
 have z1:=cut_lo (dq (Mi - 2 ^ p) (-(p : Int)) * dq R (-(p : Int))) (p : Int)
 have z2:=cut_hi (dq (Mi - 2 ^ p) (-(p : Int)) * dq R (-(p : Int))) (p : Int)
 rw [h3, eB] at z1 z2
 obtain ⟨z3, z4⟩:=ln_argz4 hq1 hq2 (Rat.le_of_lt hu) hu1 d1 d2 r4 r5 z1 (Rat.le_of_lt z2)
 have q1:=cut_lo (dq Z (-(p : Int)) * dq Z (-(p : Int))) (p : Int)
 have q2:=cut_hi (dq Z (-(p : Int)) * dq Z (-(p : Int))) (p : Int)
 have q0:=cut_nn (rsq_nn (dq Z (-(p : Int)))) (p:=(p : Int))
 rw [h4] at q0 q1 q2
 have zz : dq Z (-(p : Int)) * dq Z (-(p : Int)) ≤ 3 / 50:=by
  generalize dq Z (-(p : Int)) = z at *
  rcases (Rat.le_total : 0 ≤ z ∨ z ≤ 0) with h | h
  ·have:=rmul_le z4 z4 h (by grind)
   grind
  ·have:=rmul_le (a := -z) (b:=121 / 500) (c := -z) (d:=121 / 500) (by grind) (by grind) (by grind) (by grind)
   grind
 have t2 : ∀ y : Int, dq y (-(p : Int)) ≤ 2 → y ≤ 2 * 2 ^ p:=fun y hy => (dq_le_iff _ _ (-(p : Int))).1 (by
  have e : dq (2 * 2 ^ p) (-(p : Int)) = 2:=by
   rw [dq_scale, Rat.intCast_mul, Rat.mul_assoc, two_cast, Rat.mul_one]
   rfl
  rw [e]; exact hy)
 have mb1 : Mi ≤ 2 * 2 ^ p:=t2 Mi (by
  generalize dq Mi (-(p : Int)) = x at *
  generalize dq 1 (-(p : Int)) = u at *
  clear h1 h2 h3 h4 eA eB
  grind)
 have mb0 : 0 ≤ Mi:=(dq_le_iff _ _ (-(p : Int))).1 (by
  rw [dq_zero]
  generalize dq Mi (-(p : Int)) = x at *
  generalize dq 1 (-(p : Int)) = u at *
  clear h1 h2 h3 h4 eA eB
  grind)
 have hp0:=pow2_pos p
 have e1 : (2 : Int) ^ (p + 1) = 2 * 2 ^ p:=by rw [Int.pow_succ, Int.mul_comm]
 have e2 : (2 : Int) ^ (p + 2) = 4 * 2 ^ p:=by rw [Int.pow_succ, Int.pow_succ]; omega
 refine ⟨d1, d2, r4, r5, z1, Rat.le_of_lt z2, by grind, by grind, q1, Rat.le_of_lt q2, abp_in (by omega) (by omega), abp_in (by omega) (by omega), abp_in (by omega) (by omega), a1, r2, dq_abp (by grind) (by grind), q0, ?_⟩
 refine Int.not_le.1 fun hle => ?_
 have h9:=(dq_le_iff _ _ (-(p : Int))).2 hle
 rw [one_p, dq_scale, Rat.intCast_mul, Rat.mul_assoc, ← dq_scale] at h9
 have e : ((16 : Int) : Rat) = 16:=rfl
 rw [e] at h9
 generalize dq Q (-(p : Int)) = x at *
 generalize dq Z (-(p : Int)) * dq Z (-(p : Int)) = y at *
 clear h1 h2 h3 h4 eA eB z1 z2 r4 r5
 grind
theorem LgB.gs {q : Rat} {p n : Nat} {Mi R Z Q T G : Int} (h : LgB q p Mi R Z Q) (s : SerOk Q p n T) (hp : 32 ≤ p) (hG : cutQ (dq Z (-(p : Int)) * dq T (-(p : Int))) (p : Int) = G) : AbP G p:=by
 have hu:=dq_pos (-(p : Int))
 have hu1:=u1000 hp
 have g1:=cut_lo (dq Z (-(p : Int)) * dq T (-(p : Int))) (p : Int)
 have g2:=cut_hi (dq Z (-(p : Int)) * dq T (-(p : Int))) (p : Int)
 rw [hG] at g1 g2
 have q0:=(dq_le_iff 0 Q (-(p : Int))).2 h.q0
 rw [dq_zero] at q0
 have q16 : dq Q (-(p : Int)) ≤ 1 / 16:=by
  have h1:=(dq_le_iff (16 * Q) (2 ^ p) (-(p : Int))).2 (by have:=h.q16; omega)
  rw [one_p, dq_scale, Rat.intCast_mul, Rat.mul_assoc, ← dq_scale] at h1
  have e : ((16 : Int) : Rat) = 16:=rfl
  rw [e] at h1
  generalize dq Q (-(p : Int)) = x at *
  grind
 have t1:=Rat.le_trans s.up (hr_le q0 q16 n 0)
 have t0:=(dq_le_iff 0 T (-(p : Int))).2 s.t0
 rw [dq_zero] at t0
 have b1:=Rat.mul_le_mul_of_nonneg_right h.z4 t0
 have b2:=Rat.mul_le_mul_of_nonneg_right h.z3 t0
 generalize dq Z (-(p : Int)) * dq T (-(p : Int)) = y at *
 generalize dq T (-(p : Int)) = t at *
 refine dq_abp ?_ ?_
 ·generalize dq G (-(p : Int)) = g at *
  clear hG h s q0 q16
  grind
 ·generalize dq G (-(p : Int)) = g at *
  clear hG h s q0 q16
  grind
theorem tsqrt_any (M E S : Int) (p : Nat) (vx : Value) (w : World) (hx : IsD w vx M E) (hv : Dv M E) (lm : zl M ≤ 140) (he : -4000 ≤ E ∧ E ≤ 4000) (hM : 0 ≤ M) (hS : sqR (dq M E) (p : Int) = S) (hb : AbP S (p + 40)) (hp : p ≤ 2000) (hT : Tab w) :
  Calls Tryz.prog 203 #[vx, .int .i64 (p : Int)] w (RetD8 w (mkM S (-(p : Int))) (mkE S (-(p : Int)))):=by
 obtain ⟨A, c, rfl, _, hn⟩:=hx.form
 have L0:=(Lq.mk0 w).n hn
 have gs:=fun W => tsplit_any p W (by omega)
 have GS:=Hd9 gs
 clear gs
 have wz1 : IntKind.i64.wrap (-(0 : Int)) = 0:=by decide
 have wz2 : IntKind.i64.wrap (2 * (0 : Int)) = 0:=by decide
 have wz3 : IntKind.i64.wrap 0 = 0:=by decide
 obtain ⟨s1, s2, s3⟩:=np_same hv (by omega) (by omega)
 have g1:=fun x W h (hW : Below w.heap.size w W) => dshift_any M E 0 x W h (by omega) (by omega) (by omega) (hT.mono hW)
 rw [s1, s2, s3] at g1
 have hwk : workB (p : Int) = true:=by
  unfold workB
  rw [decide_eq_true (show (0 : Int) ≤ (p : Int) by omega), decide_eq_true (show (p : Int) ≤ 4096 by omega)]
  rfl
 have g2:=fun x W h (hW : Below w.heap.size w W) => dsqrtf_any M E (p : Int) x W h (by omega) (by omega) hv (by omega) (by omega) (hT.mono hW)
 unfold RetSf at g2
 simp only [hwk, if_true, if_neg (show ¬ M < 0 by omega), hS] at g2
 obtain ⟨f1, f2, f3, f4, f5⟩:=nx (x := -(p : Int)) hb (by omega) (by omega)
 obtain ⟨X, hX⟩:=nm9 (mkM S (-(p : Int)))
 obtain ⟨Y, hY⟩:=nm9 (mkE S (-(p : Int)))
 rw [hX] at g2 f2 f4 f5 ⊢
 rw [hY] at g2 f3 f4 f5 ⊢
 obtain ⟨t1, t2, t3⟩:=np_same f4 (by omega) (by omega)
 have g3:=fun x W h (hW : Below w.heap.size w W) => dshift_any X Y 0 x W h (by omega) (by omega) (by omega) (hT.mono hW)
 rw [t1, t2, t3] at g3
 clear hwk f1 f2 f3 f4 f5 t1 t2 t3 s1 s2 s3 hX hY hp hT hS hM hb lm he hv hx
 have G1:=Hd9 g1
 have G2:=Hd9 g2
 have G3:=Hd9 g3
 clear g1 g2 g3
 go_enter Tryz.func203, Tryz.ntmps203
 have L:=((L0.varD (w.heap.size) (by simp) (ng M) A (zl M) c E).varD (w.heap.size + 1) (by simp) false none 0 0 0)
 (try go_wp2_with fail)
 refine (GS.out _).mono ?_
 rintro e9 w' ⟨rfl, rfl⟩
 obtain ⟨c10,c11,c12⟩:=L.tl.b0.a3
 (try go_wp2_with fail)
 refine (G1.out _ _ (isD_n (m:=M) (e:=E) (s:=.slice A (zl M) c) (L.getN (by simp))) L.below).mono ?_
 rintro e w1 ⟨v9, rfl, iz, be⟩
 clear c10 c11 c12
 obtain ⟨A1, c1, rfl, _, in9⟩:=iz.form
 replace L:=(L.step be).n in9
 clear be iz in9
 have hl9:=L.b0.lt
 replace L:=L.varD w1.heap.size rfl (ng M) A1 (zl M) c1 E
 obtain ⟨c00,c01,c02⟩:=L.b0.a3
 (try go_wp2_with fail)
 clear c00 c01 c02
 obtain ⟨g1, hg1⟩:=nm9 (w1.heap.size)
 rw [hg1] at L hl9 ⊢
 clear hg1
 have hl_g1:=hl9
 clear hl9
 refine (G2.out _ _ (isD_n (m:=M) (e:=E) (s:=.slice A1 (zl M) c1) (L.getN (by simp))) L.below).mono ?_
 rintro e w2 ⟨v9, rfl, iz, be⟩
 obtain ⟨A2, c2, rfl, _, in9⟩:=iz.form
 replace L:=(L.step be).n in9
 clear be iz in9
 have hl9:=L.b0.lt
 replace L:=L.varD w2.heap.size rfl (ng X) A2 (zl X) c2 Y
 obtain ⟨c00,c01,c02⟩:=L.b0.a3
 (try go_wp2_with fail)
 clear c00 c01 c02
 obtain ⟨g2, hg2⟩:=nm9 (w2.heap.size)
 rw [hg2] at L hl9 ⊢
 clear hg2
 have hl_g2:=hl9
 clear hl9
 refine (G3.out _ _ (isD_n (m:=X) (e:=Y) (s:=.slice A2 (zl X) c2) (L.getN (by simp))) L.below).mono ?_
 rintro e w3 ⟨v9, rfl, iz, be⟩
 obtain ⟨A6, c6, rfl, _, in9⟩:=iz.form
 replace L:=(L.step be).n in9
 clear be iz in9
 have hl9:=L.b0.lt
 have L9:=L.subx (ns':=[(.slice A6 (zl X) c6, X.natAbs)]) (bs':=[(w.heap.size + 1, 26, #[.bool false, .slice none 0 0, .int .i64 0])]) (by simp) (by simp)
 clear L
 have L:=L9
 clear L9
 have n9 : w.heap.size + 1 ≠ w3.heap.size:=by omega
 obtain ⟨c00,c01,c02⟩:=L.b0.a3
 obtain ⟨f00,f01,f02⟩:=L.b0.f3
 have LN:=L.varD w3.heap.size rfl (ng X) A6 (zl X) c6 Y
 obtain ⟨v0,v1,v2⟩:=LN.b0.a3
 obtain ⟨v3,v4,v5⟩:=LN.tl.b0.a3
 obtain ⟨v6,v7,v8⟩:=LN.tl.b0.f3
 go_wp2_with fail
 clear c00 f00 c01 f01 c02 f02
 clear v0 v1 v2 v3 v4 v5 v6 v7 v8
 clear L
 have L:=LN.swap
 clear LN
 have LP:=L.putD (by omega) (by first | (simp; done) | (simp; omega)) (ng X) A6 (zl X) c6 (Y)
 obtain ⟨k0,k1,k2⟩:=LP.b0.a3
 unfold put3 at k0 k1 k2
 exact bodyPost_ret (v:=.agg #[.bool (ng X), .slice A6 (zl X) c6, .int .i64 (Y)]) (by simp [results, Tryz.results203, go_sem, k0, k1, k2]) rfl ⟨_, rfl, isD_n (LP.getN (by simp)), LP.below⟩
theorem isq_ab {C S : Int} {p : Nat} (h : SqI C S p) (h0 : 0 ≤ C) (hC : AbP C (p + 30)) : AbP S (p + 31) ∧ AbP (C + S) (p + 32):=by
 obtain ⟨b1, b2, b3⟩:=h.big h0
 have s0:=h.nn
 have e : (2 : Nat) ^ (p + 30) = 2 ^ p * 1073741824:=by rw [Nat.pow_add]
 have e1 : (2 : Nat) ^ (p + 31) = 2 ^ p * 2147483648:=by rw [Nat.pow_add]
 have e2 : (2 : Nat) ^ (p + 32) = 2 ^ p * 4294967296:=by rw [Nat.pow_add]
 have ep : ((2 ^ p : Nat) : Int) = 2 ^ p:=by push_cast; rfl
 have pp : 0 < (2 : Nat) ^ p:=Nat.pow_pos (by omega)
 unfold AbP at *
 rw [e] at hC
 rw [e1, e2]
 generalize (2 : Nat) ^ p = P at *
 rw [← ep] at b2 b3
 constructor <;> omega

theorem thalf_any (C S : Int) (p : Nat) (vx : Value) (w : World) (hx : IsD w vx (mkM C (-(p : Int))) (mkE C (-(p : Int)))) (h0 : 0 ≤ C) (hC : AbP C (p + 30)) (hS : sqR (dq C (-(p : Int)) * dq C (-(p : Int)) + 1) (p : Int) = S) (hp : p ≤ 1000) (hT : Tab w) :
  Calls Tryz.prog 156 #[vx, .int .i64 (p : Int)] w (RetD8 w (mkM (C + S) (-(p : Int))) (mkE (C + S) (-(p : Int)))):=by
 obtain ⟨A, c, rfl, _, hn⟩:=hx.form
 have L0:=(Lq.mk0 w).n hn
 have hSI:=sqi C p
 rw [hS] at hSI
 obtain ⟨aS, aT⟩:=isq_ab hSI h0 hC
 obtain ⟨n1, n2, n3, n4, n5⟩:=nx (x := -(p : Int)) hC (by omega) (by omega)
 obtain ⟨m1, m2, m3, m4, m5⟩:=nx (x := -(p : Int)) aS (by omega) (by omega)
 obtain ⟨k1, k2, k3, k4, k5⟩:=nx (x := -(p : Int)) aT (by omega) (by omega)
 have g1:=fun x y W h j (hW : Below w.heap.size w W) => dmul_any (mkM C (-(p : Int))) (mkE C (-(p : Int))) (mkM C (-(p : Int))) (mkE C (-(p : Int))) x y W h j (by omega) (by omega) (by omega) (by omega) (hT.mono hW)
 have z1:=zl_mul (mkM C (-(p : Int))) (mkM C (-(p : Int)))
 have r1 : mkR ((mkM C (-(p : Int))) * (mkM C (-(p : Int)))) ((mkE C (-(p : Int))) + (mkE C (-(p : Int)))) = 0:=mk_fits9 (by omega) (by omega) (by omega)
 have z2:=zl_mk ((mkM C (-(p : Int))) * (mkM C (-(p : Int)))) ((mkE C (-(p : Int))) + (mkE C (-(p : Int))))
 have z3:=mkE_at r1 (k:=80) (by omega)
 have d1:=dq_mk r1
 rw [dq_mul, n5] at d1
 rw [r1] at g1
 obtain ⟨M1, hM1⟩:=nm9 (mkM ((mkM C (-(p : Int))) * (mkM C (-(p : Int)))) ((mkE C (-(p : Int))) + (mkE C (-(p : Int)))))
 obtain ⟨E1, hE1⟩:=nm9 (mkE ((mkM C (-(p : Int))) * (mkM C (-(p : Int)))) ((mkE C (-(p : Int))) + (mkE C (-(p : Int)))))
 rw [hM1] at g1 z2 d1
 rw [hE1] at g1 z3 d1
 have g2:=fun W (hW : Below w.heap.size w W) => dof_any 1 W (by omega) (by omega) (hT.mono hW)
 have h1z : zl 1 ≤ 1:=len_le1 (show 1 < 4294967296 by omega)
 have u1 : mkR 1 0 = 0:=mk_fits9 (by omega) (by omega) (by omega)
 have u2:=zl_mk 1 0
 have u3:=mkE_at u1 (k:=1) h1z
 have u4:=dq_mk u1
 have g3:=fun x y W h j (hW : Below w.heap.size w W) => dadd_any M1 E1 (mkM 1 0) (mkE 1 0) x y W h j (by omega) (by omega) (by omega) (by omega) (hT.mono hW)
 have z4:=zl_addS M1 E1 (mkM 1 0) (mkE 1 0) 4300 (by omega) (by omega)
 have r2 : mkR (addS M1 E1 (mkM 1 0) (mkE 1 0)) (min E1 (mkE 1 0)) = 0:=mk_fits9 (by omega) (by omega) (by omega)
 have d2:=dq_mk r2
 rw [dq_add, d1, u4, show dq 1 0 = 1 by decide +kernel] at d2
 rw [r2] at g3
 have hv2:=mk_ok r2
 -- the sum on the grid of 2 p
 have e2 : dq C (-(p : Int)) * dq C (-(p : Int)) + 1 = dq (C * C + 2 ^ p * 2 ^ p) (-(2 * (p : Int))):=by
  have q1:=dq_mul C (-(p : Int)) C (-(p : Int))
  have q2:=dq_mul (2 ^ p) (-(p : Int)) (2 ^ p) (-(p : Int))
  have q3 : dq (2 ^ p) (-(p : Int)) = 1:=by rw [dq_scale]; exact two_cast p
  rw [q3, Rat.mul_one] at q2
  rw [dq_addI, show -(2 * (p : Int)) = -(p : Int) + -(p : Int) by omega, q1, q2]
 have aQ : AbP (C * C + 2 ^ p * 2 ^ p) (2 * p + 61):=by
  have a1:=hC.mul hC
  have a2 : AbP (2 ^ p * 2 ^ p) (p + p):=AbP.mul (by unfold AbP; rw [Int.natAbs_pow]; exact Nat.le_refl _) (by unfold AbP; rw [Int.natAbs_pow]; exact Nat.le_refl _)
  exact ((a1.up (k:=2 * p + 60) (by omega)).add (a2.up (k:=2 * p + 60) (by omega)))
 obtain ⟨t1, t2, t3, t4, t5⟩:=nx (x := -(2 * (p : Int))) aQ (by omega) (by omega)
 have un:=mk_uniq r2 t1 (by rw [← dq_mk r2, d2, e2])
 obtain ⟨M2, hM2⟩:=nm9 (mkM (addS M1 E1 (mkM 1 0) (mkE 1 0)) (min E1 (mkE 1 0)))
 obtain ⟨E2, hE2⟩:=nm9 (mkE (addS M1 E1 (mkM 1 0) (mkE 1 0)) (min E1 (mkE 1 0)))
 rw [hM2] at g3 d2 hv2 un
 rw [hE2] at g3 d2 hv2 un
 rw [← un.1] at t2
 rw [← un.2] at t3
 have pos2 : 0 ≤ M2:=by
  have h9:=(dq_le_iff 0 M2 E2).1 (by rw [dq_zero, d2]; have:=rsq_nn (dq C (-(p : Int))); grind)
  exact h9
 have g4:=fun x W h (hW : Below w.heap.size w W) => tsqrt_any M2 E2 S p x W h hv2 (by omega) (by omega) pos2 (by rw [d2]; exact hS) (aS.up (by omega)) (by omega) (hT.mono hW)
 have g5:=fun x y W h j (hW : Below w.heap.size w W) => dadd_any (mkM C (-(p : Int))) (mkE C (-(p : Int))) (mkM S (-(p : Int))) (mkE S (-(p : Int))) x y W h j (by omega) (by omega) (by omega) (by omega) (hT.mono hW)
 obtain ⟨y1, y2, y3⟩:=nx_add (x := -(p : Int)) (hC.up (k:=p + 31) (by omega)) aS (by omega) (by omega)
 rw [y1, y2, y3] at g5
 clear y1 y2 y3 un t1 t2 t3 t4 t5 aQ e2 hv2 d2 r2 z4 u1 u2 u3 u4 h1z d1 z3 z2 r1 z1 n1 n2 n3 n4 n5 m1 m2 m3 m4 m5 k1 k2 k3 k4 k5 hSI aS aT pos2 hM1 hE1 hM2 hE2 hS hC h0 hp hT hx hn
 generalize mkM 1 0 = M9 at *
 generalize mkE 1 0 = E9 at *
 generalize mkM (C + S) (-(p : Int)) = MR at *
 generalize mkE (C + S) (-(p : Int)) = ER at *
 generalize mkM S (-(p : Int)) = MS at *
 generalize mkE S (-(p : Int)) = ES at *
 generalize mkM C (-(p : Int)) = MC at *
 generalize mkE C (-(p : Int)) = EC at *
 have G1:=Hd9 g1
 have G2:=Hd9 g2
 have G3:=Hd9 g3
 have G4:=Hd9 g4
 have G5:=Hd9 g5
 clear g1 g2 g3 g4 g5
 go_enter Tryz.func156, Tryz.ntmps156
 have L:=((L0.varD (w.heap.size) (by simp) (ng MC) A (zl MC) c EC).varD (w.heap.size + 1) (by simp) false none 0 0 0)
 obtain ⟨c10,c11,c12⟩:=L.tl.b0.a3
 (try go_wp2_with fail)
 refine (G1.out _ _ _ (isD_n (m:=MC) (e:=EC) (s:=.slice A (zl MC) c) (L.getN (by simp))) (isD_n (m:=MC) (e:=EC) (s:=.slice A (zl MC) c) (L.getN (by simp))) L.below).mono ?_
 rintro e w1 ⟨v9, rfl, iz, be⟩
 clear c10 c11 c12
 obtain ⟨A1, c1, rfl, _, in9⟩:=iz.form
 replace L:=(L.step be).n in9
 clear be iz in9
 have hl9:=L.b0.lt
 replace L:=L.varD w1.heap.size rfl (ng M1) A1 (zl M1) c1 E1
 (try go_wp2_with fail)
 obtain ⟨g1, hg1⟩:=nm9 (w1.heap.size)
 rw [hg1] at L hl9 ⊢
 clear hg1
 have hl_g1:=hl9
 clear hl9
 replace L:=L.drew
 (try go_wp2_with fail)
 have LD:=L
 clear L
 obtain ⟨c00,c01,c02⟩:=LD.b0.a3
 obtain ⟨f00,f01,f02⟩:=LD.b0.f3
 go_cut [] from 15 to 20 (fun wx => ∃ A8 c8, Lq w wx [(.slice A8 (zl M2) c8, M2.natAbs), (.slice A (zl MC) c, MC.natAbs)] [] [] [(g1, 26, #[.bool (ng M2), .slice A8 (zl M2) c8, .int .i64 E2]), (w.heap.size + 1, 26, #[.bool false, .slice none 0 0, .int .i64 0]), (w.heap.size, 26, #[.bool (ng MC), .slice A (zl MC) c, .int .i64 EC])])
 case first =>
  go_region_with (first | (go_at_call 92; (with_reducible refine (G2.out _ LD.below).mono ?_); rintro e9 wh ⟨vh, rfl, id, be⟩; obtain ⟨A7, c7, rfl, _, in9⟩:=id.form; replace LD:=(LD.step be).n in9; clear be id in9; (try (obtain ⟨r0,r1,r2⟩:=LD.b0.a3; obtain ⟨t0,t1,t2⟩:=LD.b0.f3))) | (go_at_call 57; (with_reducible refine (G3.out _ _ _ ?_ ?_ LD.below).mono ?_); (· (refine isD_n (LD.getN ?_) <;> (repeat (first | (with_reducible exact mS) | apply mT)))); (· (refine isD_n (LD.getN ?_) <;> (repeat (first | (with_reducible exact mS) | apply mT)))); rintro e9 wh ⟨vh, rfl, id, be⟩; obtain ⟨A8, c8, rfl, _, in9⟩:=id.form; replace LD:=(LD.step be).n in9; clear be id in9; (try (obtain ⟨r0,r1,r2⟩:=LD.b0.a3; obtain ⟨t0,t1,t2⟩:=LD.b0.f3))))
  all_goals
   have LP:=LD.putD (by omega) (by first | (simp; done) | (simp; omega)) (ng M2) A8 (zl M2) c8 E2
   unfold put3 at LP
   go_wp2_with fail
   go_meet
   exact ⟨A8, c8, LP.subx (by simp) (by simp)⟩
 case rest =>
  obtain ⟨A8, c8, L⟩:=hcut
  generalize wc = wd0 at *
  clear LD
  have hl_g1:=L.b0.lt
  (try go_wp2_with fail)
  obtain ⟨V, hV, L9⟩:=L.name
  rw [hV]
  clear hV L
  have L:=L9
  clear L9
  have Q0:=Hd9 (fun Z (hZ : Below V.heap.size V Z) => (L.b0.mono hZ).c30)
  have Q1:=Hd9 (fun Z (hZ : Below V.heap.size V Z) => (L.b0.mono hZ).c31)
  have Q2:=Hd9 (fun Z (hZ : Below V.heap.size V Z) => (L.b0.mono hZ).c32)
  have Q3:=Hd9 (fun Z (hZ : Below V.heap.size V Z) => (L.tl.tl.b0.mono hZ).c30)
  have Q4:=Hd9 (fun Z (hZ : Below V.heap.size V Z) => (L.tl.tl.b0.mono hZ).c31)
  have Q5:=Hd9 (fun Z (hZ : Below V.heap.size V Z) => (L.tl.tl.b0.mono hZ).c32)
  have hb0:=L.b0.lt
  have hb1:=L.tl.tl.b0.lt
  have D0 : Dq V V [(.slice A8 (zl M2) c8, (M2 : Int).natAbs), (.slice A (zl MC) c, (MC : Int).natAbs)] [] [] []:=⟨(((Lq.mk0 V).n (L.getN (v:=.slice A (zl MC) c) (x:=(MC : Int).natAbs) (by simp))).n (L.getN (v:=.slice A8 (zl M2) c8) (x:=(M2 : Int).natAbs) (by simp))), List.nodup_nil, fun p hp => by cases hp⟩
  have D:=D0.drew
  have hVw:=L.below.size
  have HVW:=Hd9 (fun Z (hZ : Below V.heap.size V Z) => L.below.trans (hZ.mono hVw))
  have LL:=Hd9 L
  clear L
  obtain ⟨K, hK⟩:=nm9 (V.heap.size)
  have hz0 : K ≤ V.heap.size:=by omega
  have hmd : V.drew.heap.size = K:=hK
  have hc0 : g1 < K:=by omega
  have hc1 : w.heap.size < K:=by omega
  go_cut [7, 8] from 21 to 28 (fun s0 s1 wx => s1 = .int .i64 0 ∧ Made1D V MR ER s0 wx)
  case first =>
   go_region_held3 (fun w' => w'.cell? ⟨g1, 0, none⟩ = some (.bool (ng M2)) ∧ w'.cell? ⟨g1, 1, none⟩ = some (.slice A8 (zl M2) c8) ∧ w'.cell? ⟨g1, 2, none⟩ = some (.int .i64 E2) ∧ w'.cell? ⟨w.heap.size, 0, none⟩ = some (.bool (ng MC)) ∧ w'.cell? ⟨w.heap.size, 1, none⟩ = some (.slice A (zl MC) c) ∧ w'.cell? ⟨w.heap.size, 2, none⟩ = some (.int .i64 EC)) (((try dsimp only); refine ⟨?_, ?_, ?_, ?_, ?_, ?_⟩ <;> (repeat (first | (with_reducible exact Q0.out _ D.lq.below) | (with_reducible exact Q0.out _ D0.lq.below) | (with_reducible exact Q1.out _ D.lq.below) | (with_reducible exact Q1.out _ D0.lq.below) | (with_reducible exact Q2.out _ D.lq.below) | (with_reducible exact Q2.out _ D0.lq.below) | (with_reducible exact Q3.out _ D.lq.below) | (with_reducible exact Q3.out _ D0.lq.below) | (with_reducible exact Q4.out _ D.lq.below) | (with_reducible exact Q4.out _ D0.lq.below) | (with_reducible exact Q5.out _ D.lq.below) | (with_reducible exact Q5.out _ D0.lq.below) | (with_reducible refine c_alloc _ ?_) | (with_reducible refine c_drew ?_) | (with_reducible refine c_set ?_ (by assumption) ?_) | omega)))) (first | (go_at_call 203; (with_reducible refine (G4.out _ _ ?_ ?_).mono ?_); (· (first | (with_reducible refine isD_n (D.getN ?_); (repeat (first | (with_reducible exact mS) | apply mT))) | (with_reducible refine isD_n ((D.boxD false none 0 0 0).getN ?_); (repeat (first | (with_reducible exact mS) | apply mT))) | (with_reducible refine isD_n ((D0.boxD false none 0 0 0).drew.getN ?_); (repeat (first | (with_reducible exact mS) | apply mT))))); (· (first | (with_reducible exact HVW.out _ D.lq.below) | (with_reducible exact HVW.out _ (D.boxD false none 0 0 0).lq.below) | (with_reducible exact HVW.out _ (D0.boxD false none 0 0 0).drew.lq.below))); rintro e9 wh ⟨vh, rfl, id, be⟩; obtain ⟨A3, c3, rfl, _, in9⟩:=id.form; (first | (replace D:=D.step be) | (replace D:=(D.boxMD hmd false none 0 0 0).step be) | (replace D:=(D.boxD false none 0 0 0).step be)); have hz:=be.size; (try simp at hz); replace D:=D.n in9; (try (obtain ⟨x00,x01,x02⟩:=D.lq.b0.a3; obtain ⟨y00,y01,y02⟩:=D.lq.b0.f3)); (try obtain ⟨na, nb, nc, nd, nl⟩:=D.n0)) | (go_at_call 57; (with_reducible refine (G5.out _ _ _ ?_ ?_ ?_).mono ?_); (· (first | (with_reducible refine isD_n (D.getN ?_); (repeat (first | (with_reducible exact mS) | apply mT))) | (with_reducible refine isD_n ((D.boxD false none 0 0 0).getN ?_); (repeat (first | (with_reducible exact mS) | apply mT))) | (with_reducible refine isD_n ((D0.boxD false none 0 0 0).drew.getN ?_); (repeat (first | (with_reducible exact mS) | apply mT))))); (· (first | (with_reducible refine isD_n (D.getN ?_); (repeat (first | (with_reducible exact mS) | apply mT))) | (with_reducible refine isD_n ((D.boxD false none 0 0 0).getN ?_); (repeat (first | (with_reducible exact mS) | apply mT))) | (with_reducible refine isD_n ((D0.boxD false none 0 0 0).drew.getN ?_); (repeat (first | (with_reducible exact mS) | apply mT))))); (· (first | (with_reducible exact HVW.out _ D.lq.below) | (with_reducible exact HVW.out _ (D.boxD false none 0 0 0).lq.below) | (with_reducible exact HVW.out _ (D0.boxD false none 0 0 0).drew.lq.below))); rintro e9 wh ⟨vh, rfl, id, be⟩; obtain ⟨A4, c4, rfl, _, in9⟩:=id.form; (first | (replace D:=D.step be) | (replace D:=(D.boxMD hmd false none 0 0 0).step be) | (replace D:=(D.boxD false none 0 0 0).step be)); have hz:=be.size; (try simp at hz); replace D:=D.n in9; (try (obtain ⟨x00,x01,x02⟩:=D.lq.b0.a3; obtain ⟨y00,y01,y02⟩:=D.lq.b0.f3)); (try obtain ⟨na, nb, nc, nd, nl⟩:=D.n0)))
   all_goals
    go_wp2_with fail
    go_meet
    refine ⟨rfl, ?_⟩
    first
    | ((with_reducible refine made1d_a D ?_) <;> (repeat (first | (with_reducible exact mS) | apply mT)))
    | ((with_reducible refine made1d_b D ?_) <;> (repeat (first | (with_reducible exact mS) | apply mT)))
  case rest =>
   obtain ⟨rfl, g2, A9, c9, rfl, hg9, bw, hb9, q1⟩:=hcut
   have L:=((LL.out.step bw).n q1).b hb9
   have hl_g2:=hg9
   clear D D0 hmd LL hb9 q1 bw hg9 HVW Q0 Q1 Q2 Q3 Q4 Q5 hc0 hc1
   generalize wc = wd30 at *
   have hv9:=L.b0
   have hl9:=hv9.lt
   have L9:=L.subx (ns':=[(.slice A9 (zl MR) c9, MR.natAbs)]) (bs':=[(w.heap.size + 1, 26, #[.bool false, .slice none 0 0, .int .i64 0]), (g2, 26, #[.bool (ng MR), .slice A9 (zl MR) c9, .int .i64 ER])]) (by simp) (by simp)
   clear L hv9
   have L:=L9
   clear L9
   have n9 : w.heap.size + 1 ≠ g2:=by omega
   obtain ⟨c00,c01,c02⟩:=L.b0.a3
   obtain ⟨f00,f01,f02⟩:=L.b0.f3
   obtain ⟨c10,c11,c12⟩:=L.tl.b0.a3
   (try go_wp2_with fail)
   clear c00 f00 c01 f01 c02 f02 c10 c11 c12
   have LP:=L.putD (by omega) (by first | (simp; done) | (simp; omega)) (ng MR) A9 (zl MR) c9 (ER)
   obtain ⟨k0,k1,k2⟩:=LP.b0.a3
   unfold put3 at k0 k1 k2
   exact bodyPost_ret (v:=.agg #[.bool (ng MR), .slice A9 (zl MR) c9, .int .i64 (ER)]) (by simp [results, Tryz.results156, go_sem, k0, k1, k2]) rfl ⟨_, rfl, isD_n (LP.getN (by simp)), LP.below⟩

theorem cut_fl (a b : Int) (p : Nat) : cutQ (dq a (-(p : Int)) * dq b (-(p : Int))) (p : Int) = a * b / 2 ^ p:=by
 refine cut_unique (dq_fl a b p).1 ?_
 have t:=two_cast p
 have u:=dq_pos (-(p : Int))
 have hp:=pow2_pos p
 have h2 : a * b < (a * b / 2 ^ p + 1) * 2 ^ p:=Int.lt_ediv_add_one_mul_self _ hp
 have c2:=Rat.intCast_lt_intCast.2 h2
 rw [Rat.intCast_mul, Rat.intCast_mul, Rat.intCast_add] at c2
 rw [dq_scale a, dq_scale b, dq_scale (a * b / 2 ^ p)]
 generalize dq 1 (-(p : Int)) = U at *
 generalize (((2 : Int) ^ p : Int) : Rat) = T at *
 generalize ((a * b / 2 ^ p : Int) : Rat) = F at *
 have o : ((1 : Int) : Rat) = 1:=rfl
 rw [o] at c2
 have m2:=Rat.mul_lt_mul_of_pos_right c2 (Rat.mul_pos u u)
 have e2 : (F + 1) * T * (U * U) = (F + 1) * U * (T * U):=by grind
 rw [e2, t] at m2
 grind
theorem cut_int (P : Int) {k : Int} (hk : 0 < k) (p : Nat) : cutQ (dq P (-(p : Int)) / dq k 0) (p : Int) = P / k:=by
 have u:=dq_pos (-(p : Int))
 have kk : (0 : Rat) < (k : Rat):=Rat.intCast_lt_intCast.2 hk
 have e0 : dq k 0 = (k : Rat):=dq_int k
 rw [e0]
 have dv : dq P (-(p : Int)) / (k : Rat) * (k : Rat) = dq P (-(p : Int)):=Rat.div_mul_cancel (Rat.ne_of_gt kk)
 refine cut_unique (le_of_mul kk (by rw [dv]; exact fdiv_le hk _)) ?_
 refine lt_of_mul9 kk ?_
 rw [dv, ← dq_succ, dq_scale (P / k + 1), dq_scale P]
 have c:=Rat.intCast_lt_intCast.2 (Int.lt_ediv_add_one_mul_self P hk)
 rw [Rat.intCast_mul] at c
 have m:=Rat.mul_lt_mul_of_pos_right c u
 grind
theorem cmp_z {x : Int} : cmpI x 0 = 0 ↔ x = 0:=by
 unfold cmpI
 (repeat' split) <;> omega
theorem mk_z {x e : Int} (h : mkR x e = 0) : mkM x e = 0 ↔ x = 0:=by
 have q:=dq_mk h
 constructor
 ·intro h0
  rw [h0, dq_zero] at q
  have a:=(dq_le_iff x 0 e).1 (by rw [dq_zero, ← q]; exact Rat.le_refl)
  have b:=(dq_le_iff 0 x e).1 (by rw [dq_zero, ← q]; exact Rat.le_refl)
  omega
 ·intro h0
  subst h0
  rw [dq_zero] at q
  have a:=(dq_le_iff (mkM 0 e) 0 (mkE 0 e)).1 (by rw [dq_zero, q]; exact Rat.le_refl)
  have b:=(dq_le_iff 0 (mkM 0 e) (mkE 0 e)).1 (by rw [dq_zero, q]; exact Rat.le_refl)
  omega
def RetAs (w : World) (X Q : Int) (p : Nat) (en : Ending) (w' : World) : Prop:=∃ n, n ≤ 60 ∧ pwA Q X p n = 0 ∧ RetD8 w (mkM (smA Q X p n) (-(p : Int))) (mkE (smA Q X p n) (-(p : Int))) en w'
theorem unit_ab {x : Int} {p : Nat} (h0 : 0 ≤ x) (h : x * 1024 ≤ 2 ^ p) : AbP x p:=by
 have e : ((2 ^ p : Nat) : Int) = 2 ^ p:=by push_cast; rfl
 unfold AbP
 omega
theorem unit_dq {x : Int} {p : Nat} (h0 : 0 ≤ x) (h : x * 1024 ≤ 2 ^ p) : 0 ≤ dq x (-(p : Int)) ∧ dq x (-(p : Int)) ≤ 1:=by
 have a:=(dq_le_iff 0 x (-(p : Int))).2 h0
 have b:=(dq_le_iff x (2 ^ p) (-(p : Int))).2 (by omega)
 rw [dq_zero] at a
 rw [dq_scale (2 ^ p), two_cast] at b
 exact ⟨a, b⟩
structure SeA (X Q : Int) (p j : Nat) (MP EP MT ET : Int) : Prop where
 b : j = 0 ∨ 20 * (j - 1) + 10 ≤ p
 mp : mkM (pwA Q X p j) (-(p : Int)) = MP
 ep : mkE (pwA Q X p j) (-(p : Int)) = EP
 mt : mkM (smA Q X p j) (-(p : Int)) = MT
 et : mkE (smA Q X p j) (-(p : Int)) = ET

theorem tser_any (X Q : Int) (p : Nat) (vx : Value) (w : World) (hx : IsD w vx (mkM X (-(p : Int))) (mkE X (-(p : Int)))) (hX : SmX X Q p) (hp : p ≤ 700) (hT : Tab w) :
  Calls Tryz.prog 145 #[vx, .int .i64 (p : Int)] w (RetAs w X Q p):=by
 obtain ⟨A, c, rfl, _, hn⟩:=hx.form
 have L0:=(Lq.mk0 w).n hn
 have HT:=Hd9 (fun W (hW : Below w.heap.size w W) => hT.mono hW)
 have HX:=Hd9 hX
 have HP:=Hd9 hp
 have aX:=unit_ab hX.nn hX.lt
 have qq:=hX.q
 have aQ : AbP Q p:=unit_ab qq.1 (by omega)
 obtain ⟨n1, n2, n3, n4, n5⟩:=nx (x := -(p : Int)) aX (by omega) (by omega)
 obtain ⟨q1, q2, q3, q4, q5⟩:=nx (x := -(p : Int)) aQ (by omega) (by omega)
 have g1:=fun x y W h j (hW : Below w.heap.size w W) => tprod_any (mkM X (-(p : Int))) (mkE X (-(p : Int))) (mkM X (-(p : Int))) (mkE X (-(p : Int))) Q p x y W h j (by omega) (by omega) (by omega) (by omega) (by rw [n5, cut_fl]; exact hX.sq.symm) (aQ.up (by omega)) (by omega) (hT.mono hW)
 have G1:=Hd9 g1
 have HQ:=Hd9 (And.intro q2 (And.intro q3 q5))
 have HJ0:=Hd9 (show SeA X Q p 0 (mkM X (-(p : Int))) (mkE X (-(p : Int))) 0 0 from ⟨Or.inl rfl, rfl, rfl, (nx_zero (by omega)).1, (nx_zero (by omega)).2⟩)
 clear g1 n1 n2 n3 n4 n5 q1 q2 q3 q4 q5 qq aX aQ hX hT hx hn
 obtain ⟨M0, hM0⟩:=nm9 (mkM X (-(p : Int)))
 rw [hM0] at G1 L0 HJ0 ⊢
 clear hM0
 obtain ⟨E0, hE0⟩:=nm9 (mkE X (-(p : Int)))
 rw [hE0] at G1 HJ0 ⊢
 clear hE0
 obtain ⟨MQ, hMQ⟩:=nm9 (mkM Q (-(p : Int)))
 rw [hMQ] at G1 HQ
 clear hMQ
 obtain ⟨EQ, hEQ⟩:=nm9 (mkE Q (-(p : Int)))
 rw [hEQ] at G1 HQ
 clear hEQ
 go_enter Tryz.func145, Tryz.ntmps145
 have L:=((L0.varD (w.heap.size) (by simp) (ng M0) A (zl M0) c E0).varD (w.heap.size + 1) (by simp) false none 0 0 0)
 obtain ⟨c10,c11,c12⟩:=L.tl.b0.a3
 (try go_wp2_with fail)
 refine (G1.out _ _ _ (isD_n (m:=M0) (e:=E0) (s:=.slice A (zl M0) c) (L.getN (by simp))) (isD_n (m:=M0) (e:=E0) (s:=.slice A (zl M0) c) (L.getN (by simp))) L.below).mono ?_
 rintro e w1 ⟨v9, rfl, iz, be⟩
 clear c10 c11 c12
 obtain ⟨A1, c1, rfl, _, in9⟩:=iz.form
 replace L:=(L.step be).n in9
 clear be iz in9
 have hl9:=L.b0.lt
 obtain ⟨gq, hgq⟩:=nm9 (w1.heap.size)
 have L1:=L.varD gq hgq.symm (ng MQ) A1 (zl MQ) c1 EQ
 have L2:=L1.varD (gq + 1) (by simp; omega) false none 0 0 0
 have L3:=L2.varD (gq + 2) (by simp; omega) (ng M0) A (zl M0) c E0
 rw [hgq] at hl9
 obtain ⟨u0,u1,u2⟩:=L1.b0.a3
 obtain ⟨v0,v1,v2⟩:=L2.b0.a3
 obtain ⟨x0,x1,x2⟩:=L2.tl.tl.tl.b0.a3
 obtain ⟨y0,y1,y2⟩:=L3.b0.a3
 obtain ⟨z0,z1,z2⟩:=L.tl.b0.a3
 have hsz : w1.heap.size = gq:=hgq
 go_wp2_with fail
 clear u0 u1 u2 v0 v1 v2 x0 x1 x2 y0 y1 y2 z0 z1 z2
 have hgr : w.heap.size + 1 < gq:=hl9
 clear hsz hl9 L L1 L2
 go_loopw [8] (fun i wr => ∃ (j : Nat) (MP EP MT ET : Int) (B C : Option Addr) (d d2 : Nat), i = .int .i64 (2 * (j : Int) + 1) ∧ Lq w wr [(.slice B (zl MP) d, MP.natAbs), (.slice C (zl MT) d2, MT.natAbs), (.slice A1 (zl MQ) c1, MQ.natAbs)] [] [] [(gq + 2, 26, #[.bool (ng MP), .slice B (zl MP) d, .int .i64 EP]), (gq + 1, 26, #[.bool (ng MT), .slice C (zl MT) d2, .int .i64 ET]), (gq, 26, #[.bool (ng MQ), .slice A1 (zl MQ) c1, .int .i64 EQ]), (w.heap.size + 1, 26, #[.bool false, .slice none 0 0, .int .i64 0])] ∧ Hid (SeA X Q p j MP EP MT ET)) (fun i _ => (2000 - intOf i).toNat)
 case atStart =>
  refine ⟨0, M0, E0, 0, 0, A, none, c, 0, by go_num, ?_, HJ0⟩
  have zz0 : zl 0 = 0:=zl_zero
  have nn0 : ng 0 = false:=rfl
  rw [zz0, nn0]
  exact (L3.n (IsN.zero _)).subx (by simp) (by simp)
 case round =>
  clear L3 HJ0
  obtain ⟨j, MP, EP, MT, ET, B, C, d, d2, rfl, L, HJ⟩:=hrel
  have hX:=HX.out
  have hp:=HP.out
  obtain ⟨hb, hmp, hep, hmt, het⟩:=HJ.out
  have hj60 : j ≤ 60:=by omega
  have pn:=pw_nn hX j
  have pl:=pw_le hX j
  have xl:=hX.lt
  have aP:=unit_ab pn (show pwA Q X p j * 1024 ≤ 2 ^ p by omega)
  have uP:=unit_dq pn (show pwA Q X p j * 1024 ≤ 2 ^ p by omega)
  have aT:=sm_ab hX (n:=j) (by omega)
  obtain ⟨t1, t2, t3, t4, t5⟩:=nx (x := -(p : Int)) aP (by omega) (by omega)
  obtain ⟨s1, s2, s3, s4, s5⟩:=nx (x := -(p : Int)) aT (by omega) (by omega)
  have hz:=mk_z t1
  rw [hmp] at t2 t4 t5 hz
  rw [hep] at t3 t4 t5
  rw [hmt] at s2 s4 s5
  rw [het] at s3 s4 s5
  have gs:=fun v W h => dsign_any MP EP v W h (by omega)
  obtain ⟨sg, hsg⟩:=nm9 (cmpI MP 0)
  have hc:=cmp_z (x:=MP)
  rw [hsg] at gs hc
  have hl0:=L.b0.lt
  by_cases hz0 : sg = 0
  ·subst hz0
   have GS:=Hd9 gs
   have hend:=hz.1 (hc.1 rfl)
   have HR:=Hd9 (show ∃ n, n ≤ 60 ∧ pwA Q X p n = 0 ∧ mkM (smA Q X p n) (-(p : Int)) = MT ∧ mkE (smA Q X p n) (-(p : Int)) = ET from ⟨j, hj60, hend, hmt, het⟩)
   clear gs hz hc hsg hend hX hp hb hmp hep hmt het hj60 pn pl xl aP uP aT t1 t2 t3 t4 t5 s1 s2 s3 s4 s5 HJ
   obtain ⟨cel00,cel01,cel02⟩:=L.b0.a3
   (try go_wp2_with fail)
   refine (GS.out _ _ (isD_n (m:=MP) (e:=EP) (s:=.slice B (zl MP) d) (L.getN (by simp)))).mono ?_
   rintro e w41 ⟨rfl, be⟩
   clear cel00 cel01 cel02
   replace L:=L.step be
   clear be
   have hv9:=L.tl.b0
   have hl9:=hv9.lt
   have L9:=L.subx (ns':=[(.slice C (zl MT) d2, MT.natAbs)]) (bs':=[(w.heap.size + 1, 26, #[.bool false, .slice none 0 0, .int .i64 0]), (gq + 1, 26, #[.bool (ng MT), .slice C (zl MT) d2, .int .i64 ET])]) (by simp) (by simp)
   clear L hv9
   have L:=L9
   clear L9
   have n9 : w.heap.size + 1 ≠ gq + 1:=by omega
   obtain ⟨cel00,cel01,cel02⟩:=L.b0.a3
   obtain ⟨f00,f01,f02⟩:=L.b0.f3
   obtain ⟨cel10,cel11,cel12⟩:=L.tl.b0.a3
   (try go_wp2_with fail)
   clear cel00 f00 cel01 f01 cel02 f02 cel10 cel11 cel12
   obtain ⟨n, hn1, hn2, hn3, hn4⟩:=HR.out
   have LP:=L.putD (by omega) (by first | (simp; done) | (simp; omega)) (ng MT) C (zl MT) d2 (ET)
   obtain ⟨k0,k1,k2⟩:=LP.b0.a3
   unfold put3 at k0 k1 k2
   exact bodyPost_ret (v:=.agg #[.bool (ng MT), .slice C (zl MT) d2, .int .i64 (ET)]) (by simp [results, Tryz.results145, go_sem, k0, k1, k2]) rfl ⟨n, hn1, hn2, _, rfl, by rw [hn3, hn4]; exact isD_n (LP.getN (by simp)), LP.below⟩
  ·have GS:=Hd9 gs
   have hpz : pwA Q X p j ≠ 0:=fun h => hz0 (hc.2 (hz.2 h))
   have hj2:=pw_end hX hpz
   have hsb : (sg != 0) = true:=by simp [hz0]
   have hk : (0 : Int) < 2 * (j : Int) + 1:=by omega
   obtain ⟨N, hN⟩:=nm9 (2 * (j : Int) + 1)
   have aN : AbP N 14:=by
    have e : (2 : Nat) ^ 14 = 16384:=by decide
    unfold AbP
    rw [e]
    omega
   obtain ⟨o1, o2, o3, o4, o5⟩:=nx (x:=0) aN (by omega) (by omega)
   have g2:=fun W (hW : Below w.heap.size w W) => dof_any N W (by omega) (by omega) (HT.out W hW)
   obtain ⟨T, hT9⟩:=nm9 (pwA Q X p j / N)
   have hT0 : 0 ≤ T:=by rw [← hT9]; exact Int.ediv_nonneg pn (by omega)
   have hT1 : T ≤ pwA Q X p j:=by rw [← hT9]; exact Int.ediv_le_self _ pn
   have aTt:=unit_ab hT0 (show T * 1024 ≤ 2 ^ p by omega)
   have n1 : (1 : Rat) ≤ dq N 0:=by
    rw [dq_int]
    have:=Rat.intCast_le_intCast.2 (show (1 : Int) ≤ N by omega)
    exact this
   have g3:=fun x y W h i (hW : Below w.heap.size w W) => tquot_any MP EP (mkM N 0) (mkE N 0) T p x y W h i t4 o4 (by omega) (by omega) (by omega) (by omega) (by rw [t5]; exact uP.1) (by rw [t5]; exact uP.2) (by rw [o5]; grind) (by rw [t5, o5, cut_int _ (by omega)]; exact hT9) (by omega) (HT.out W hW)
   obtain ⟨r1, r2, r3, r4, r5⟩:=nx (x := -(p : Int)) aTt (by omega) (by omega)
   obtain ⟨q2, q3, q5⟩:=HQ.out
   have g7:=fun x y W h i (hW : Below w.heap.size w W) => tprod_any MP EP MQ EQ (pwA Q X p (j + 1)) p x y W h i (by omega) (by omega) (by omega) (by omega) (by rw [t5, q5, cut_fl]; rfl) ((unit_ab (p:=p) (pw_nn hX (j + 1)) (by have:=pw_le hX (j + 1); omega)).up (by omega)) (by omega) (HT.out W hW)
   have w1 : IntKind.i64.wrap (N + 2) = 2 * ((j + 1 : Nat) : Int) + 1:=by rw [IntKind.wrap_i64]; omega
   have evc:=evn_succ j
   have es : smA Q X p (j + 1) = smA Q X p j + (if evn j then T else -T):=by rw [← hT9, ← hN]; rfl
   have hev : evn j = decide (j % 2 = 0):=rfl
   cases he : evn j
   ·rw [he] at es hev
    have hm : N.tmod 4 = 3:=by
     have:=of_decide_eq_false hev.symm
     rw [Int.tmod_eq_emod_of_nonneg (by omega)]
     omega
    have es2 : smA Q X p (j + 1) = smA Q X p j - T:=by rw [es]; rw [Int.sub_eq_add_neg]; rfl
    have g5:=fun v W h => dneg_any (mkM T (-(p : Int))) (mkE T (-(p : Int))) v W h (by omega)
    have zn:=zl_neg (mkM T (-(p : Int)))
    have g6:=fun x y W h i (hW : Below w.heap.size w W) => dadd_any MT ET (-mkM T (-(p : Int))) (mkE T (-(p : Int))) x y W h i (by omega) (by omega) (by omega) (by omega) (HT.out W hW)
    have nxs:=nx_sub (x := -(p : Int)) aT aTt (by omega) (by omega)
    rw [hmt, het] at nxs
    obtain ⟨y1, y2, y3⟩:=nxs
    rw [y1, y2, y3, ← es2] at g6
    have HJ2:=Hd9 (show SeA X Q p (j + 1) (mkM (pwA Q X p (j + 1)) (-(p : Int))) (mkE (pwA Q X p (j + 1)) (-(p : Int))) (mkM (smA Q X p (j + 1)) (-(p : Int))) (mkE (smA Q X p (j + 1)) (-(p : Int))) from ⟨Or.inr (by omega), rfl, rfl, rfl, rfl⟩)
    have G2:=Hd9 g2
    have G3:=Hd9 g3
    have G5:=Hd9 g5
    have G6:=Hd9 g6
    have G7:=Hd9 g7
    have HM:=Hd9 (And.intro hj60 hN)
    clear g2 g3 g5 g6 g7 gs hz hc hsg hX hp hb hmp hep hmt het hj60 pn pl xl aP uP aT t1 t2 t3 t4 t5 s1 s2 s3 s4 s5 HJ hpz hj2 hk aN o1 o2 o3 o4 o5 hT9 hT0 hT1 aTt n1 r1 r2 r3 r4 r5 q2 q3 q5 evc es hev es2 zn y1 y2 y3 he HQ
    rw [hN]
    obtain ⟨MP2, hMP2⟩:=nm9 (mkM (pwA Q X p (j + 1)) (-(p : Int)))
    rw [hMP2] at G7 HJ2
    clear hMP2
    obtain ⟨EP2, hEP2⟩:=nm9 (mkE (pwA Q X p (j + 1)) (-(p : Int)))
    rw [hEP2] at G7 HJ2
    clear hEP2
    obtain ⟨MT2, hMT2⟩:=nm9 (mkM (smA Q X p (j + 1)) (-(p : Int)))
    rw [hMT2] at G6 HJ2
    clear hMT2
    obtain ⟨ET2, hET2⟩:=nm9 (mkE (smA Q X p (j + 1)) (-(p : Int)))
    rw [hET2] at G6 HJ2
    clear hET2
    obtain ⟨Mt, hMt⟩:=nm9 (mkM T (-(p : Int)))
    rw [hMt] at G3 G5 G6
    clear hMt
    obtain ⟨Et, hEt⟩:=nm9 (mkE T (-(p : Int)))
    rw [hEt] at G3 G5 G6
    clear hEt
    obtain ⟨Mo, hMo⟩:=nm9 (mkM N 0)
    rw [hMo] at G2 G3
    clear hMo
    obtain ⟨Eo, hEo⟩:=nm9 (mkE N 0)
    rw [hEo] at G2 G3
    clear hEo
    obtain ⟨cel00,cel01,cel02⟩:=L.b0.a3
    (try go_wp2_with fail)
    refine (GS.out _ _ (isD_n (m:=MP) (e:=EP) (s:=.slice B (zl MP) d) (L.getN (by simp)))).mono ?_
    rintro e w41 ⟨rfl, be⟩
    clear cel00 cel01 cel02
    replace L:=L.step be
    clear be
    have hl_gp:=L.b0.lt
    (try go_wp2_with fail)
    obtain ⟨V, hV, L9⟩:=L.name
    rw [hV]
    clear hV L
    have L:=L9
    clear L9
    have Q0:=Hd9 (fun Z (hZ : Below V.heap.size V Z) => (L.b0.mono hZ).c30)
    have Q1:=Hd9 (fun Z (hZ : Below V.heap.size V Z) => (L.b0.mono hZ).c31)
    have Q2:=Hd9 (fun Z (hZ : Below V.heap.size V Z) => (L.b0.mono hZ).c32)
    have hb0:=L.b0.lt
    have D0 : Dq V V [(.slice B (zl MP) d, (MP : Int).natAbs)] [] [] []:=⟨((Lq.mk0 V).n (L.getN (v:=.slice B (zl MP) d) (x:=(MP : Int).natAbs) (by simp))), List.nodup_nil, fun p hp => by cases hp⟩
    have D:=D0.drew
    have hVw:=L.below.size
    have HVW:=Hd9 (fun Z (hZ : Below V.heap.size V Z) => L.below.trans (hZ.mono hVw))
    have LL:=Hd9 L
    clear L
    obtain ⟨K, hK⟩:=nm9 (V.heap.size)
    have hz0 : K ≤ V.heap.size:=by omega
    have hmd : V.drew.heap.size = K:=hK
    have hc0 : gq + 2 < K:=by omega
    go_cut [9] from 21 to 25 (fun s0 wx => Made1D V Mt Et s0 wx)
    case first =>
     go_region_held3 (fun w' => w'.cell? ⟨gq + 2, 0, none⟩ = some (.bool (ng MP)) ∧ w'.cell? ⟨gq + 2, 1, none⟩ = some (.slice B (zl MP) d) ∧ w'.cell? ⟨gq + 2, 2, none⟩ = some (.int .i64 EP)) (((try dsimp only); refine ⟨?_, ?_, ?_⟩ <;> (repeat (first | (with_reducible exact Q0.out _ D.lq.below) | (with_reducible exact Q0.out _ D0.lq.below) | (with_reducible exact Q1.out _ D.lq.below) | (with_reducible exact Q1.out _ D0.lq.below) | (with_reducible exact Q2.out _ D.lq.below) | (with_reducible exact Q2.out _ D0.lq.below) | (with_reducible refine c_alloc _ ?_) | (with_reducible refine c_drew ?_) | (with_reducible refine c_set ?_ (by assumption) ?_) | omega)))) (first | (go_at_call 92; (with_reducible refine (G2.out _ ?_).mono ?_); (· (first | (with_reducible exact HVW.out _ D.lq.below) | (with_reducible exact HVW.out _ (D.boxD false none 0 0 0).lq.below) | (with_reducible exact HVW.out _ (D0.boxD false none 0 0 0).drew.lq.below))); rintro e9 wh ⟨vh, rfl, id, be⟩; obtain ⟨A7, c7, rfl, _, in9⟩:=id.form; (first | (replace D:=D.step be) | (replace D:=(D.boxMD hmd false none 0 0 0).step be) | (replace D:=(D.boxD false none 0 0 0).step be)); have hz:=be.size; (try simp at hz); replace D:=D.n in9; (try (obtain ⟨x00,x01,x02⟩:=D.lq.b0.a3; obtain ⟨y00,y01,y02⟩:=D.lq.b0.f3)); (try obtain ⟨na, nb, nc, nd, nl⟩:=D.n0)) | (go_at_call 146; (with_reducible refine (G3.out _ _ _ ?_ ?_ ?_).mono ?_); (· (first | (with_reducible refine isD_n (D.getN ?_); (repeat (first | (with_reducible exact mS) | apply mT))) | (with_reducible refine isD_n ((D.boxD false none 0 0 0).getN ?_); (repeat (first | (with_reducible exact mS) | apply mT))) | (with_reducible refine isD_n ((D0.boxD false none 0 0 0).drew.getN ?_); (repeat (first | (with_reducible exact mS) | apply mT))))); (· (first | (with_reducible refine isD_n (D.getN ?_); (repeat (first | (with_reducible exact mS) | apply mT))) | (with_reducible refine isD_n ((D.boxD false none 0 0 0).getN ?_); (repeat (first | (with_reducible exact mS) | apply mT))) | (with_reducible refine isD_n ((D0.boxD false none 0 0 0).drew.getN ?_); (repeat (first | (with_reducible exact mS) | apply mT))))); (· (first | (with_reducible exact HVW.out _ D.lq.below) | (with_reducible exact HVW.out _ (D.boxD false none 0 0 0).lq.below) | (with_reducible exact HVW.out _ (D0.boxD false none 0 0 0).drew.lq.below))); rintro e9 wh ⟨vh, rfl, id, be⟩; obtain ⟨A8, c8, rfl, _, in9⟩:=id.form; (first | (replace D:=D.step be) | (replace D:=(D.boxMD hmd false none 0 0 0).step be) | (replace D:=(D.boxD false none 0 0 0).step be)); have hz:=be.size; (try simp at hz); replace D:=D.n in9; (try (obtain ⟨x00,x01,x02⟩:=D.lq.b0.a3; obtain ⟨y00,y01,y02⟩:=D.lq.b0.f3)); (try obtain ⟨na, nb, nc, nd, nl⟩:=D.n0)))
     all_goals
      go_wp2_with fail
      go_meet
      first
      | ((with_reducible refine made1d_a D ?_) <;> (repeat (first | (with_reducible exact mS) | apply mT)))
      | ((with_reducible refine made1d_b D ?_) <;> (repeat (first | (with_reducible exact mS) | apply mT)))
    case rest =>
     obtain ⟨gn, A9, c9, rfl, hg9, bw, hb9, q1⟩:=hcut
     have L:=((LL.out.step bw).n q1).b hb9
     have hl_gn:=hg9
     clear D D0 hmd LL hb9 q1 bw hg9 HVW Q0 Q1 Q2 hc0
     generalize wc = wd41 at *
     obtain ⟨cel00,cel01,cel02⟩:=L.b0.a3
     (try go_wp2_with fail)
     refine (G5.out _ _ (isD_n (m:=Mt) (e:=Et) (s:=.slice A9 (zl Mt) c9) (L.getN (by simp)))).mono ?_
     rintro e w43 ⟨v9, rfl, iz, be⟩
     clear cel00 cel01 cel02
     obtain ⟨A5, c5, rfl, _, in9⟩:=iz.form
     replace L:=(L.step be).n in9
     clear be iz in9
     obtain ⟨cel00,cel01,cel02⟩:=L.b0.a3
     obtain ⟨f00,f01,f02⟩:=L.b0.f3
     have P:=L.putD (by omega) (by first | (simp; done) | (simp; omega)) (ng (-Mt)) A5 (zl (-Mt)) c5 Et
     obtain ⟨p00,p01,p02⟩:=P.b0.a3
     obtain ⟨p20,p21,p22⟩:=P.tl.tl.b0.a3
     unfold put3 at p00 p01 p02 p20 p21 p22 P
     go_wp2_with fail
     replace L:=P
     clear P p00 p01 p02 p20 p21 p22
     clear cel00 f00 cel01 f01 cel02 f02
     obtain ⟨Mn, hMn⟩:=nm9 (-Mt)
     rw [hMn] at L G6 ⊢
     clear hMn
     refine (G6.out _ _ _ (isD_n (m:=MT) (e:=ET) (s:=.slice C (zl MT) d2) (L.getN (by simp))) (isD_n (m:=Mn) (e:=Et) (s:=.slice A5 (zl Mn) c5) (L.getN (by simp))) L.below).mono ?_
     rintro e w44 ⟨v9, rfl, iz, be⟩
     obtain ⟨C5, d5, rfl, _, in9⟩:=iz.form
     replace L:=(L.step be).n in9
     clear be iz in9
     have L9:=L.subx (ns':=[(.slice B (zl MP) d, MP.natAbs), (.slice C5 (zl MT2) d5, MT2.natAbs), (.slice A1 (zl MQ) c1, MQ.natAbs)]) (bs':=[(gq + 1, 26, #[.bool (ng MT), .slice C (zl MT) d2, .int .i64 ET]), (gq + 2, 26, #[.bool (ng MP), .slice B (zl MP) d, .int .i64 EP]), (gq, 26, #[.bool (ng MQ), .slice A1 (zl MQ) c1, .int .i64 EQ]), (w.heap.size + 1, 26, #[.bool false, .slice none 0 0, .int .i64 0])]) (by simp) (by simp)
     clear L
     have L:=L9
     clear L9
     obtain ⟨cel00,cel01,cel02⟩:=L.b0.a3
     obtain ⟨f00,f01,f02⟩:=L.b0.f3
     have P:=L.putD (by omega) (by first | (simp; done) | (simp; omega)) (ng MT2) C5 (zl MT2) d5 ET2
     obtain ⟨p10,p11,p12⟩:=P.tl.b0.a3
     obtain ⟨p20,p21,p22⟩:=P.tl.tl.b0.a3
     unfold put3 at p10 p11 p12 p20 p21 p22 P
     go_wp2_with fail
     replace L:=P
     clear P p10 p11 p12 p20 p21 p22
     clear cel00 f00 cel01 f01 cel02 f02
     refine (G7.out _ _ _ (isD_n (m:=MP) (e:=EP) (s:=.slice B (zl MP) d) (L.getN (by simp))) (isD_n (m:=MQ) (e:=EQ) (s:=.slice A1 (zl MQ) c1) (L.getN (by simp))) L.below).mono ?_
     rintro e w45 ⟨v9, rfl, iz, be⟩
     obtain ⟨B5, d6, rfl, _, in9⟩:=iz.form
     replace L:=(L.step be).n in9
     clear be iz in9
     replace L:=L.swap
     obtain ⟨cel00,cel01,cel02⟩:=L.b0.a3
     obtain ⟨f00,f01,f02⟩:=L.b0.f3
     replace L:=L.putD (by omega) (by first | (simp; done) | (simp; omega)) (ng MP2) B5 (zl MP2) d6 EP2
     unfold put3 at L
     go_wp2_with fail
     go_roundw
     case rel => exact ⟨j + 1, MP2, EP2, MT2, ET2, B5, C5, d6, d5, by go_num, L.subx (by simp) (by simp), HJ2⟩
     case measure =>
      obtain ⟨hj60, hN⟩:=HM.out
      simp [intOf]
      omega
   ·rw [he] at es hev
    have hm : N.tmod 4 = 1:=by
     have:=of_decide_eq_true hev.symm
     rw [Int.tmod_eq_emod_of_nonneg (by omega)]
     omega
    have es2 : smA Q X p (j + 1) = smA Q X p j + T:=by rw [es]; rfl
    have g5:=fun v W h => dneg_any (mkM T (-(p : Int))) (mkE T (-(p : Int))) v W h (by omega)
    have zn:=zl_neg (mkM T (-(p : Int)))
    have g6:=fun x y W h i (hW : Below w.heap.size w W) => dadd_any MT ET (mkM T (-(p : Int))) (mkE T (-(p : Int))) x y W h i (by omega) (by omega) (by omega) (by omega) (HT.out W hW)
    have nxs:=nx_add (x := -(p : Int)) aT aTt (by omega) (by omega)
    rw [hmt, het] at nxs
    obtain ⟨y1, y2, y3⟩:=nxs
    rw [y1, y2, y3, ← es2] at g6
    have HJ2:=Hd9 (show SeA X Q p (j + 1) (mkM (pwA Q X p (j + 1)) (-(p : Int))) (mkE (pwA Q X p (j + 1)) (-(p : Int))) (mkM (smA Q X p (j + 1)) (-(p : Int))) (mkE (smA Q X p (j + 1)) (-(p : Int))) from ⟨Or.inr (by omega), rfl, rfl, rfl, rfl⟩)
    have G2:=Hd9 g2
    have G3:=Hd9 g3
    have G5:=Hd9 g5
    have G6:=Hd9 g6
    have G7:=Hd9 g7
    have HM:=Hd9 (And.intro hj60 hN)
    clear g2 g3 g5 g6 g7 gs hz hc hsg hX hp hb hmp hep hmt het hj60 pn pl xl aP uP aT t1 t2 t3 t4 t5 s1 s2 s3 s4 s5 HJ hpz hj2 hk aN o1 o2 o3 o4 o5 hT9 hT0 hT1 aTt n1 r1 r2 r3 r4 r5 q2 q3 q5 evc es hev es2 zn y1 y2 y3 he HQ
    rw [hN]
    obtain ⟨MP2, hMP2⟩:=nm9 (mkM (pwA Q X p (j + 1)) (-(p : Int)))
    rw [hMP2] at G7 HJ2
    clear hMP2
    obtain ⟨EP2, hEP2⟩:=nm9 (mkE (pwA Q X p (j + 1)) (-(p : Int)))
    rw [hEP2] at G7 HJ2
    clear hEP2
    obtain ⟨MT2, hMT2⟩:=nm9 (mkM (smA Q X p (j + 1)) (-(p : Int)))
    rw [hMT2] at G6 HJ2
    clear hMT2
    obtain ⟨ET2, hET2⟩:=nm9 (mkE (smA Q X p (j + 1)) (-(p : Int)))
    rw [hET2] at G6 HJ2
    clear hET2
    obtain ⟨Mt, hMt⟩:=nm9 (mkM T (-(p : Int)))
    rw [hMt] at G3 G5 G6
    clear hMt
    obtain ⟨Et, hEt⟩:=nm9 (mkE T (-(p : Int)))
    rw [hEt] at G3 G5 G6
    clear hEt
    obtain ⟨Mo, hMo⟩:=nm9 (mkM N 0)
    rw [hMo] at G2 G3
    clear hMo
    obtain ⟨Eo, hEo⟩:=nm9 (mkE N 0)
    rw [hEo] at G2 G3
    clear hEo
    obtain ⟨cel00,cel01,cel02⟩:=L.b0.a3
    (try go_wp2_with fail)
    refine (GS.out _ _ (isD_n (m:=MP) (e:=EP) (s:=.slice B (zl MP) d) (L.getN (by simp)))).mono ?_
    rintro e w41 ⟨rfl, be⟩
    clear cel00 cel01 cel02
    replace L:=L.step be
    clear be
    have hl_gp:=L.b0.lt
    (try go_wp2_with fail)
    obtain ⟨V, hV, L9⟩:=L.name
    rw [hV]
    clear hV L
    have L:=L9
    clear L9
    have Q0:=Hd9 (fun Z (hZ : Below V.heap.size V Z) => (L.b0.mono hZ).c30)
    have Q1:=Hd9 (fun Z (hZ : Below V.heap.size V Z) => (L.b0.mono hZ).c31)
    have Q2:=Hd9 (fun Z (hZ : Below V.heap.size V Z) => (L.b0.mono hZ).c32)
    have hb0:=L.b0.lt
    have D0 : Dq V V [(.slice B (zl MP) d, (MP : Int).natAbs)] [] [] []:=⟨((Lq.mk0 V).n (L.getN (v:=.slice B (zl MP) d) (x:=(MP : Int).natAbs) (by simp))), List.nodup_nil, fun p hp => by cases hp⟩
    have D:=D0.drew
    have hVw:=L.below.size
    have HVW:=Hd9 (fun Z (hZ : Below V.heap.size V Z) => L.below.trans (hZ.mono hVw))
    have LL:=Hd9 L
    clear L
    obtain ⟨K, hK⟩:=nm9 (V.heap.size)
    have hz0 : K ≤ V.heap.size:=by omega
    have hmd : V.drew.heap.size = K:=hK
    have hc0 : gq + 2 < K:=by omega
    go_cut [9] from 21 to 25 (fun s0 wx => Made1D V Mt Et s0 wx)
    case first =>
     go_region_held3 (fun w' => w'.cell? ⟨gq + 2, 0, none⟩ = some (.bool (ng MP)) ∧ w'.cell? ⟨gq + 2, 1, none⟩ = some (.slice B (zl MP) d) ∧ w'.cell? ⟨gq + 2, 2, none⟩ = some (.int .i64 EP)) (((try dsimp only); refine ⟨?_, ?_, ?_⟩ <;> (repeat (first | (with_reducible exact Q0.out _ D.lq.below) | (with_reducible exact Q0.out _ D0.lq.below) | (with_reducible exact Q1.out _ D.lq.below) | (with_reducible exact Q1.out _ D0.lq.below) | (with_reducible exact Q2.out _ D.lq.below) | (with_reducible exact Q2.out _ D0.lq.below) | (with_reducible refine c_alloc _ ?_) | (with_reducible refine c_drew ?_) | (with_reducible refine c_set ?_ (by assumption) ?_) | omega)))) (first | (go_at_call 92; (with_reducible refine (G2.out _ ?_).mono ?_); (· (first | (with_reducible exact HVW.out _ D.lq.below) | (with_reducible exact HVW.out _ (D.boxD false none 0 0 0).lq.below) | (with_reducible exact HVW.out _ (D0.boxD false none 0 0 0).drew.lq.below))); rintro e9 wh ⟨vh, rfl, id, be⟩; obtain ⟨A7, c7, rfl, _, in9⟩:=id.form; (first | (replace D:=D.step be) | (replace D:=(D.boxMD hmd false none 0 0 0).step be) | (replace D:=(D.boxD false none 0 0 0).step be)); have hz:=be.size; (try simp at hz); replace D:=D.n in9; (try (obtain ⟨x00,x01,x02⟩:=D.lq.b0.a3; obtain ⟨y00,y01,y02⟩:=D.lq.b0.f3)); (try obtain ⟨na, nb, nc, nd, nl⟩:=D.n0)) | (go_at_call 146; (with_reducible refine (G3.out _ _ _ ?_ ?_ ?_).mono ?_); (· (first | (with_reducible refine isD_n (D.getN ?_); (repeat (first | (with_reducible exact mS) | apply mT))) | (with_reducible refine isD_n ((D.boxD false none 0 0 0).getN ?_); (repeat (first | (with_reducible exact mS) | apply mT))) | (with_reducible refine isD_n ((D0.boxD false none 0 0 0).drew.getN ?_); (repeat (first | (with_reducible exact mS) | apply mT))))); (· (first | (with_reducible refine isD_n (D.getN ?_); (repeat (first | (with_reducible exact mS) | apply mT))) | (with_reducible refine isD_n ((D.boxD false none 0 0 0).getN ?_); (repeat (first | (with_reducible exact mS) | apply mT))) | (with_reducible refine isD_n ((D0.boxD false none 0 0 0).drew.getN ?_); (repeat (first | (with_reducible exact mS) | apply mT))))); (· (first | (with_reducible exact HVW.out _ D.lq.below) | (with_reducible exact HVW.out _ (D.boxD false none 0 0 0).lq.below) | (with_reducible exact HVW.out _ (D0.boxD false none 0 0 0).drew.lq.below))); rintro e9 wh ⟨vh, rfl, id, be⟩; obtain ⟨A8, c8, rfl, _, in9⟩:=id.form; (first | (replace D:=D.step be) | (replace D:=(D.boxMD hmd false none 0 0 0).step be) | (replace D:=(D.boxD false none 0 0 0).step be)); have hz:=be.size; (try simp at hz); replace D:=D.n in9; (try (obtain ⟨x00,x01,x02⟩:=D.lq.b0.a3; obtain ⟨y00,y01,y02⟩:=D.lq.b0.f3)); (try obtain ⟨na, nb, nc, nd, nl⟩:=D.n0)))
     all_goals
      go_wp2_with fail
      go_meet
      first
      | ((with_reducible refine made1d_a D ?_) <;> (repeat (first | (with_reducible exact mS) | apply mT)))
      | ((with_reducible refine made1d_b D ?_) <;> (repeat (first | (with_reducible exact mS) | apply mT)))
    case rest =>
     obtain ⟨gn, A9, c9, rfl, hg9, bw, hb9, q1⟩:=hcut
     have L:=((LL.out.step bw).n q1).b hb9
     have hl_gn:=hg9
     clear D D0 hmd LL hb9 q1 bw hg9 HVW Q0 Q1 Q2 hc0
     generalize wc = wd41 at *
     obtain ⟨cel00,cel01,cel02⟩:=L.b0.a3
     obtain ⟨cel20,cel21,cel22⟩:=L.tl.tl.b0.a3
     (try go_wp2_with fail)
     refine (G6.out _ _ _ (isD_n (m:=MT) (e:=ET) (s:=.slice C (zl MT) d2) (L.getN (by simp))) (isD_n (m:=Mt) (e:=Et) (s:=.slice A9 (zl Mt) c9) (L.getN (by simp))) L.below).mono ?_
     rintro e w43 ⟨v9, rfl, iz, be⟩
     clear cel00 cel01 cel02 cel20 cel21 cel22
     obtain ⟨C5, d5, rfl, _, in9⟩:=iz.form
     replace L:=(L.step be).n in9
     clear be iz in9
     have L9:=L.subx (ns':=[(.slice B (zl MP) d, MP.natAbs), (.slice C5 (zl MT2) d5, MT2.natAbs), (.slice A1 (zl MQ) c1, MQ.natAbs)]) (bs':=[(gq + 1, 26, #[.bool (ng MT), .slice C (zl MT) d2, .int .i64 ET]), (gq + 2, 26, #[.bool (ng MP), .slice B (zl MP) d, .int .i64 EP]), (gq, 26, #[.bool (ng MQ), .slice A1 (zl MQ) c1, .int .i64 EQ]), (w.heap.size + 1, 26, #[.bool false, .slice none 0 0, .int .i64 0])]) (by simp) (by simp)
     clear L
     have L:=L9
     clear L9
     obtain ⟨cel00,cel01,cel02⟩:=L.b0.a3
     obtain ⟨f00,f01,f02⟩:=L.b0.f3
     have P:=L.putD (by omega) (by first | (simp; done) | (simp; omega)) (ng MT2) C5 (zl MT2) d5 ET2
     obtain ⟨p10,p11,p12⟩:=P.tl.b0.a3
     obtain ⟨p20,p21,p22⟩:=P.tl.tl.b0.a3
     unfold put3 at p10 p11 p12 p20 p21 p22 P
     go_wp2_with fail
     replace L:=P
     clear P p10 p11 p12 p20 p21 p22
     clear cel00 f00 cel01 f01 cel02 f02
     refine (G7.out _ _ _ (isD_n (m:=MP) (e:=EP) (s:=.slice B (zl MP) d) (L.getN (by simp))) (isD_n (m:=MQ) (e:=EQ) (s:=.slice A1 (zl MQ) c1) (L.getN (by simp))) L.below).mono ?_
     rintro e w44 ⟨v9, rfl, iz, be⟩
     obtain ⟨B5, d6, rfl, _, in9⟩:=iz.form
     replace L:=(L.step be).n in9
     clear be iz in9
     replace L:=L.swap
     obtain ⟨cel00,cel01,cel02⟩:=L.b0.a3
     obtain ⟨f00,f01,f02⟩:=L.b0.f3
     replace L:=L.putD (by omega) (by first | (simp; done) | (simp; omega)) (ng MP2) B5 (zl MP2) d6 EP2
     unfold put3 at L
     go_wp2_with fail
     go_roundw
     case rel => exact ⟨j + 1, MP2, EP2, MT2, ET2, B5, C5, d6, d5, by go_num, L.subx (by simp) (by simp), HJ2⟩
     case measure =>
      obtain ⟨hj60, hN⟩:=HM.out
      simp [intOf]
      omega

theorem nx_shl {s : Int} {p j k : Nat} (h : AbP s j) (hj : j ≤ 2000) (hk : k ≤ 100) (hp : p ≤ 2000) : mkR (mkM s (-(p : Int))) (mkE s (-(p : Int)) + (k : Int)) = 0 ∧ mkM (mkM s (-(p : Int))) (mkE s (-(p : Int)) + (k : Int)) = mkM (s * 2 ^ k) (-(p : Int)) ∧ mkE (mkM s (-(p : Int))) (mkE s (-(p : Int)) + (k : Int)) = mkE (s * 2 ^ k) (-(p : Int)):=by
 obtain ⟨a1, a2, a3, a4, a5⟩:=nx (x := -(p : Int)) h (by omega) (by omega)
 have hr : mkR (mkM s (-(p : Int))) (mkE s (-(p : Int)) + (k : Int)) = 0:=mk_fits9 (by omega) (by omega) (by omega)
 have hs : AbP (s * 2 ^ k) (j + k):=AbP.mul h (by unfold AbP; rw [Int.natAbs_pow]; exact Nat.le_refl _)
 obtain ⟨b1, _⟩:=nx (x := -(p : Int)) hs (by omega) (by omega)
 refine ⟨hr, mk_uniq hr b1 ?_⟩
 have e1:=dq_mul (mkM s (-(p : Int))) (mkE s (-(p : Int))) 1 (k : Int)
 rw [Int.mul_one, a5] at e1
 have e2 : dq (s * 2 ^ k) (-(p : Int)) = dq s (-(p : Int)) * dq 1 (k : Int):=by
  have:=dq_mul s (-(p : Int)) 1 (k : Int)
  rw [Int.mul_one] at this
  rw [← this]
  refine dq_eq (F := -(p : Int)) ?_ (by omega) (by omega)
  rw [show (-(p : Int) - -(p : Int)).toNat = 0 by omega, show (-(p : Int) + (k : Int) - -(p : Int)).toNat = k by omega]
  simp
 rw [e1, e2]
structure AnJ (p : Nat) (C0 : Int) (j : Nat) (C MC EC : Int) : Prop where
 hv : HvI p C0 j C
 k : j ≤ 11
 ab : AbP C (p + 30)
 m : mkM C (-(p : Int)) = MC
 e : mkE C (-(p : Int)) = EC
def RetAg (w : World) (p : Nat) (C0 : Int) (en : Ending) (w' : World) : Prop:=∃ Z, AgI p C0 Z ∧ AbP Z (p + 20) ∧ RetD8 w (mkM Z (-(p : Int))) (mkE Z (-(p : Int))) en w'
theorem ten_dq (p : Nat) : dq (1024 * 2 ^ p) (-(p : Int)) = dq 1 10:=by
 rw [dq_scale, Rat.intCast_mul, Rat.mul_assoc, two_cast, Rat.mul_one]
 decide +kernel
theorem last_x {p : Nat} {C : Int} (hC : 1024 * 2 ^ p ≤ C) : ∃ X, cutQ (1 / dq C (-(p : Int))) (p : Int) = X ∧ SmX X (X * X / 2 ^ p) p ∧ dq X (-(p : Int)) * dq C (-(p : Int)) ≤ 1 ∧ 1 ≤ (dq X (-(p : Int)) + dq 1 (-(p : Int))) * dq C (-(p : Int)) ∧ AbP X p:=by
 have hc : 1024 ≤ dq C (-(p : Int)):=by
  have:=(dq_le_iff _ _ (-(p : Int))).2 hC
  rw [ten_dq] at this
  exact this
 obtain ⟨_, b2, _, b4, b5, b6⟩:=rec_bd (x:=dq C (-(p : Int))) (p:=p) (b:=0) (k:=p) (by grind) rfl
 refine ⟨_, rfl, ⟨b6, ?_, rfl⟩, b4, b5, b2⟩
 refine (dq_le_iff _ _ (-(p : Int))).1 ?_
 generalize cutQ (1 / dq C (-(p : Int))) (p : Int) = X at *
 have x0 : 0 ≤ dq X (-(p : Int)):=by have:=(dq_le_iff 0 X (-(p : Int))).2 b6; rwa [dq_zero] at this
 have m:=Rat.mul_le_mul_of_nonneg_left hc x0
 have e : dq (X * 1024) (-(p : Int)) = dq X (-(p : Int)) * 1024:=by
  rw [dq_scale, dq_scale X, Rat.intCast_mul]
  have : ((1024 : Int) : Rat) = 1024:=rfl
  rw [this]
  grind
 rw [e, dq_scale (2 ^ p), two_cast]
 grind
theorem hv_ab {p : Nat} {C S : Int} (h0 : 0 ≤ C) (hC : C < 1024 * 2 ^ p) (hS : SqI C S p) : AbP (C + S) (p + 30):=by
 obtain ⟨b1, b2, b3⟩:=hS.big h0
 have s0:=hS.nn
 have e : (2 : Nat) ^ (p + 30) = 2 ^ p * 1073741824:=by rw [Nat.pow_add]
 have ep : ((2 ^ p : Nat) : Int) = 2 ^ p:=by push_cast; rfl
 have pp : 0 < (2 : Nat) ^ p:=Nat.pow_pos (by omega)
 unfold AbP
 rw [e]
 generalize (2 : Nat) ^ p = P at *
 rw [← ep] at b2 b3 hC
 omega

theorem tangle_any (C0 : Int) (p : Nat) (vx : Value) (w : World) (hx : IsD w vx (mkM C0 (-(p : Int))) (mkE C0 (-(p : Int)))) (h0 : 0 ≤ C0) (hC : AbP C0 (p + 30)) (hp : p ≤ 700) (hT : Tab w) :
  Calls Tryz.prog 91 #[vx, .int .i64 (p : Int)] w (RetAg w p C0):=by
 obtain ⟨A, c, rfl, _, hn⟩:=hx.form
 have L0:=(Lq.mk0 w).n hn
 have HT:=Hd9 (fun W (hW : Below w.heap.size w W) => hT.mono hW)
 have HP:=Hd9 hp
 have HJ0:=Hd9 (show AnJ p C0 0 C0 (mkM C0 (-(p : Int))) (mkE C0 (-(p : Int))) from ⟨HvI.first h0, by omega, hC, rfl, rfl⟩)
 have hpm : permB (-10) = true:=by decide
 obtain ⟨y1, y2, y3⟩:=g_yes hpm 1
 have g1:=fun W (hW : Below w.heap.size w W) => gunit_any (-10) W (by omega) (by omega) (hT.mono hW)
 rw [y1, y2, y3, show -(-10 : Int) = 10 from rfl] at g1
 have l1 : AbP 1 0:=by unfold AbP; decide
 obtain ⟨u1, u2, u3, u4, u5⟩:=nx (x:=10) l1 (by omega) (by omega)
 rw [u1] at g1
 obtain ⟨M0, hM0⟩:=nm9 (mkM C0 (-(p : Int)))
 obtain ⟨E0, hE0⟩:=nm9 (mkE C0 (-(p : Int)))
 rw [hM0] at L0 HJ0 ⊢
 rw [hE0] at HJ0 ⊢
 obtain ⟨ML, hML⟩:=nm9 (mkM 1 10)
 obtain ⟨EL, hEL⟩:=nm9 (mkE 1 10)
 rw [hML] at g1 u2 u5
 rw [hEL] at g1 u3 u5
 have HL:=Hd9 (And.intro u2 (And.intro u3 u5))
 have G1:=Hd9 g1
 clear g1 y1 y2 y3 hpm l1 u1 u2 u3 u4 u5 hM0 hE0 hML hEL h0 hC hp hT hx hn
 go_enter Tryz.func91, Tryz.ntmps91
 have L:=((L0.varD (w.heap.size) (by simp) (ng M0) A (zl M0) c E0).varD (w.heap.size + 1) (by simp) false none 0 0 0)
 obtain ⟨c10,c11,c12⟩:=L.tl.b0.a3
 (try go_wp2_with fail)
 refine (G1.out _ L.below).mono ?_
 rintro e w1 ⟨v9, rfl, iz, be⟩
 clear c10 c11 c12
 obtain ⟨A1, c1, rfl, _, in9⟩:=iz.form
 replace L:=(L.step be).n in9
 clear be iz in9
 have hl9:=L.b0.lt
 replace L:=L.varD w1.heap.size rfl (ng ML) A1 (zl ML) c1 EL
 obtain ⟨c00,c01,c02⟩:=L.b0.a3
 (try go_wp2_with fail)
 clear c00 c01 c02
 obtain ⟨gl, hgl⟩:=nm9 (w1.heap.size)
 rw [hgl] at L hl9 ⊢
 clear hgl
 have hl_gl:=hl9
 clear hl9
 clear G1
 have hgl : w.heap.size + 1 < gl:=by omega
 go_loopw [7] (fun i wr => ∃ (j : Nat) (C MC EC : Int) (B : Option Addr) (d : Nat), i = .int .i64 (j : Int) ∧ Lq w wr [(.slice B (zl MC) d, MC.natAbs), (.slice A1 (zl ML) c1, ML.natAbs)] [] [] [(w.heap.size, 26, #[.bool (ng MC), .slice B (zl MC) d, .int .i64 EC]), (gl, 26, #[.bool (ng ML), .slice A1 (zl ML) c1, .int .i64 EL]), (w.heap.size + 1, 26, #[.bool false, .slice none 0 0, .int .i64 0])] ∧ Hid (AnJ p C0 j C MC EC)) (fun i _ => (20 - intOf i).toNat)
 case atStart => exact ⟨0, C0, M0, E0, A, c, by go_num, L.subx (by simp) (by simp), HJ0⟩
 case round =>
  clear L HJ0
  obtain ⟨j, C, MC, EC, B, d, rfl, L, HJ⟩:=hrel
  have hJ:=HJ.out
  have hp:=HP.out
  have hjk:=hJ.k
  obtain ⟨t1, t2, t3, t4, t5⟩:=nx (x := -(p : Int)) hJ.ab (by omega) (by omega)
  rw [hJ.m] at t2 t4 t5
  rw [hJ.e] at t3 t4 t5
  obtain ⟨l2, l3, l5⟩:=HL.out
  have g2:=fun v u W h k => dcmp_any MC EC ML EL v u W h k (by omega) (by omega) (by omega) (by omega)
  obtain ⟨sg, hsg⟩:=nm9 (dcm MC EC ML EL)
  have hc:=dcm_lt MC EC ML EL
  rw [show cmpI (MC * 2 ^ (EC - min EC EL).toNat) (ML * 2 ^ (EL - min EC EL).toNat) = dcm MC EC ML EL from rfl, hsg] at g2
  rw [hsg, t5, l5, ← ten_dq p, ← Rat.not_le, dq_le_iff, Int.not_le] at hc
  have G2:=Hd9 g2
  have hl0:=L.b0.lt
  clear g2 hsg l2 l3 l5
  by_cases hz0 : sg < 0
  ·have hlt:=hc.1 hz0
   have hj10:=hJ.hv.le hlt
   obtain ⟨S, hS⟩:=nm9 (sqR (dq C (-(p : Int)) * dq C (-(p : Int)) + 1) (p : Int))
   have hSI:=sqi C p
   rw [hS] at hSI
   have g3:=fun v W h (hW : Below w.heap.size w W) => thalf_any C S p v W h hJ.hv.nn hJ.ab hS (by omega) (HT.out W hW)
   rw [hJ.m, hJ.e] at g3
   have HJ2:=Hd9 (show AnJ p C0 (j + 1) (C + S) (mkM (C + S) (-(p : Int))) (mkE (C + S) (-(p : Int))) from ⟨hJ.hv.step hSI, by omega, hv_ab hJ.hv.nn hlt hSI, rfl, rfl⟩)
   obtain ⟨M2, hM2⟩:=nm9 (mkM (C + S) (-(p : Int)))
   obtain ⟨E2, hE2⟩:=nm9 (mkE (C + S) (-(p : Int)))
   rw [hM2, hE2] at g3 HJ2
   have G3:=Hd9 g3
   have w1 : IntKind.i64.wrap ((j : Int) + 1) = (j : Int) + 1:=by rw [IntKind.wrap_i64]; omega
   have d1 : decide (sg < 0) = true:=decide_eq_true hz0
   clear g3 hM2 hE2 hS hSI hlt hc t1 t2 t3 t4 t5 hJ hp
   obtain ⟨cel00,cel01,cel02⟩:=L.b0.a3
   obtain ⟨cel10,cel11,cel12⟩:=L.tl.b0.a3
   (try go_wp2_with fail)
   refine (G2.out _ _ _ (isD_n (m:=MC) (e:=EC) (s:=.slice B (zl MC) d) (L.getN (by simp))) (isD_n (m:=ML) (e:=EL) (s:=.slice A1 (zl ML) c1) (L.getN (by simp)))).mono ?_
   rintro e w41 ⟨rfl, be⟩
   clear cel00 cel01 cel02 cel10 cel11 cel12
   replace L:=L.step be
   clear be
   obtain ⟨cel00,cel01,cel02⟩:=L.b0.a3
   (try go_wp2_with fail)
   refine (G3.out _ _ (isD_n (m:=MC) (e:=EC) (s:=.slice B (zl MC) d) (L.getN (by simp))) L.below).mono ?_
   rintro e w42 ⟨v9, rfl, iz, be⟩
   clear cel00 cel01 cel02
   obtain ⟨B5, d5, rfl, _, in9⟩:=iz.form
   replace L:=(L.step be).n in9
   clear be iz in9
   obtain ⟨cel00,cel01,cel02⟩:=L.b0.a3
   obtain ⟨f00,f01,f02⟩:=L.b0.f3
   have P:=L.putD (by omega) (by first | (simp; done) | (simp; omega)) (ng M2) B5 (zl M2) d5 E2
   unfold put3 at  P
   go_wp2_with fail
   replace L:=P
   clear P 
   clear cel00 f00 cel01 f01 cel02 f02
   go_roundw
   case rel => exact ⟨j + 1, C + S, M2, E2, B5, d5, by go_num, L.subx (by simp) (by simp), HJ2⟩
   case measure => simp [intOf]; omega
  ·have hge : 1024 * 2 ^ p ≤ C:=by
    refine Int.not_lt.1 fun h => hz0 (hc.2 h)
   obtain ⟨X, hX, hSX, x1, x2, aX⟩:=last_x hge
   have d1 : decide (sg < 0) = false:=decide_eq_false hz0
   have l1 : AbP 1 0:=by unfold AbP; decide
   obtain ⟨u1, u2, u3, u4, u5⟩:=nx (x:=0) l1 (by omega) (by omega)
   have one : dq 1 0 = 1:=by decide +kernel
   have g3:=fun W (hW : Below w.heap.size w W) => dof_any 1 W (by omega) (by omega) (HT.out W hW)
   have hc9 : 1024 ≤ dq C (-(p : Int)):=by
    have:=(dq_le_iff _ _ (-(p : Int))).2 hge
    rw [ten_dq] at this
    exact this
   have g4:=fun x y W h i (hW : Below w.heap.size w W) => tquot_any (mkM 1 0) (mkE 1 0) MC EC X p x y W h i u4 t4 (by omega) (by omega) (by omega) (by omega) (by rw [u5, one]; decide) (by rw [u5, one]; exact Rat.le_refl) (by rw [t5]; grind) (by rw [u5, one, t5]; exact hX) (by omega) (HT.out W hW)
   have g5:=fun x W h (hW : Below w.heap.size w W) => tser_any X (X * X / 2 ^ p) p x W h hSX (by omega) (HT.out W hW)
   have HE:=Hd9 (fun n (hn : pwA (X * X / 2 ^ p) X p n = 0) (h6 : n ≤ 60) => ang_end hJ.hv hJ.k hge hSX x1 x2 hn (by omega))
   have HS:=Hd9 (And.intro hSX (And.intro hp hjk))
   obtain ⟨XM, hXM⟩:=nm9 (mkM X (-(p : Int)))
   obtain ⟨XE, hXE⟩:=nm9 (mkE X (-(p : Int)))
   rw [hXM, hXE] at g4 g5
   obtain ⟨M1, hM1⟩:=nm9 (mkM 1 0)
   obtain ⟨E1, hE1⟩:=nm9 (mkE 1 0)
   rw [hM1, hE1] at g3 g4
   have G3:=Hd9 g3
   have G4:=Hd9 g4
   have G5:=Hd9 g5
   clear g3 g4 g5 hXM hXE hM1 hE1 hX hSX x1 x2 aX l1 u1 u2 u3 u4 u5 one hc9 hge hc t1 t2 t3 t4 t5 hJ hp
   obtain ⟨cel00,cel01,cel02⟩:=L.b0.a3
   obtain ⟨cel10,cel11,cel12⟩:=L.tl.b0.a3
   (try go_wp2_with fail)
   refine (G2.out _ _ _ (isD_n (m:=MC) (e:=EC) (s:=.slice B (zl MC) d) (L.getN (by simp))) (isD_n (m:=ML) (e:=EL) (s:=.slice A1 (zl ML) c1) (L.getN (by simp)))).mono ?_
   rintro e w41 ⟨rfl, be⟩
   clear cel00 cel01 cel02 cel10 cel11 cel12
   replace L:=L.step be
   clear be
   (try go_wp2_with fail)
   obtain ⟨V, hV, L9⟩:=L.name
   rw [hV]
   clear hV L
   have L:=L9
   clear L9
   have Q0:=Hd9 (fun Z (hZ : Below V.heap.size V Z) => (L.b0.mono hZ).c30)
   have Q1:=Hd9 (fun Z (hZ : Below V.heap.size V Z) => (L.b0.mono hZ).c31)
   have Q2:=Hd9 (fun Z (hZ : Below V.heap.size V Z) => (L.b0.mono hZ).c32)
   have hb0:=L.b0.lt
   have D0 : Dq V V [(.slice B (zl MC) d, (MC : Int).natAbs)] [] [] []:=⟨((Lq.mk0 V).n (L.getN (v:=.slice B (zl MC) d) (x:=(MC : Int).natAbs) (by simp))), List.nodup_nil, fun p hp => by cases hp⟩
   have D:=D0.drew
   have hVw:=L.below.size
   have HVW:=Hd9 (fun Z (hZ : Below V.heap.size V Z) => L.below.trans (hZ.mono hVw))
   have LL:=Hd9 L
   clear L
   obtain ⟨K, hK⟩:=nm9 (V.heap.size)
   have hz0 : K ≤ V.heap.size:=by omega
   have hmd : V.drew.heap.size = K:=hK
   have hc0 : w.heap.size < K:=by omega
   go_cut [8] from 24 to 27 (fun s0 wx => Made1D V XM XE s0 wx)
   case first =>
    go_region_held3 (fun w' => w'.cell? ⟨w.heap.size, 0, none⟩ = some (.bool (ng MC)) ∧ w'.cell? ⟨w.heap.size, 1, none⟩ = some (.slice B (zl MC) d) ∧ w'.cell? ⟨w.heap.size, 2, none⟩ = some (.int .i64 EC)) (((try dsimp only); refine ⟨?_, ?_, ?_⟩ <;> (repeat (first | (with_reducible exact Q0.out _ D.lq.below) | (with_reducible exact Q0.out _ D0.lq.below) | (with_reducible exact Q1.out _ D.lq.below) | (with_reducible exact Q1.out _ D0.lq.below) | (with_reducible exact Q2.out _ D.lq.below) | (with_reducible exact Q2.out _ D0.lq.below) | (with_reducible refine c_alloc _ ?_) | (with_reducible refine c_drew ?_) | (with_reducible refine c_set ?_ (by assumption) ?_) | omega)))) (first | (go_at_call 92; (with_reducible refine (G3.out _ ?_).mono ?_); (· (first | (with_reducible exact HVW.out _ D.lq.below) | (with_reducible exact HVW.out _ (D.boxD false none 0 0 0).lq.below) | (with_reducible exact HVW.out _ (D0.boxD false none 0 0 0).drew.lq.below))); rintro e9 wh ⟨vh, rfl, id, be⟩; obtain ⟨A7, c7, rfl, _, in9⟩:=id.form; (first | (replace D:=D.step be) | (replace D:=(D.boxMD hmd false none 0 0 0).step be) | (replace D:=(D.boxD false none 0 0 0).step be)); have hz:=be.size; (try simp at hz); replace D:=D.n in9; (try (obtain ⟨x00,x01,x02⟩:=D.lq.b0.a3; obtain ⟨y00,y01,y02⟩:=D.lq.b0.f3)); (try obtain ⟨na, nb, nc, nd, nl⟩:=D.n0)) | (go_at_call 146; (with_reducible refine (G4.out _ _ _ ?_ ?_ ?_).mono ?_); (· (first | (with_reducible refine isD_n (D.getN ?_); (repeat (first | (with_reducible exact mS) | apply mT))) | (with_reducible refine isD_n ((D.boxD false none 0 0 0).getN ?_); (repeat (first | (with_reducible exact mS) | apply mT))) | (with_reducible refine isD_n ((D0.boxD false none 0 0 0).drew.getN ?_); (repeat (first | (with_reducible exact mS) | apply mT))))); (· (first | (with_reducible refine isD_n (D.getN ?_); (repeat (first | (with_reducible exact mS) | apply mT))) | (with_reducible refine isD_n ((D.boxD false none 0 0 0).getN ?_); (repeat (first | (with_reducible exact mS) | apply mT))) | (with_reducible refine isD_n ((D0.boxD false none 0 0 0).drew.getN ?_); (repeat (first | (with_reducible exact mS) | apply mT))))); (· (first | (with_reducible exact HVW.out _ D.lq.below) | (with_reducible exact HVW.out _ (D.boxD false none 0 0 0).lq.below) | (with_reducible exact HVW.out _ (D0.boxD false none 0 0 0).drew.lq.below))); rintro e9 wh ⟨vh, rfl, id, be⟩; obtain ⟨A8, c8, rfl, _, in9⟩:=id.form; (first | (replace D:=D.step be) | (replace D:=(D.boxMD hmd false none 0 0 0).step be) | (replace D:=(D.boxD false none 0 0 0).step be)); have hz:=be.size; (try simp at hz); replace D:=D.n in9; (try (obtain ⟨x00,x01,x02⟩:=D.lq.b0.a3; obtain ⟨y00,y01,y02⟩:=D.lq.b0.f3)); (try obtain ⟨na, nb, nc, nd, nl⟩:=D.n0)))
    all_goals
     go_wp2_with fail
     go_meet
     first
     | ((with_reducible refine made1d_a D ?_) <;> (repeat (first | (with_reducible exact mS) | apply mT)))
     | ((with_reducible refine made1d_b D ?_) <;> (repeat (first | (with_reducible exact mS) | apply mT)))
   case rest =>
    obtain ⟨gx, A9, c9, rfl, hg9, bw, hb9, q1⟩:=hcut
    have L:=((LL.out.step bw).n q1).b hb9
    have hl_gx:=hg9
    clear D D0 hmd LL hb9 q1 bw hg9 HVW Q0 Q1 Q2 hc0
    generalize wc = wd41 at *
    obtain ⟨cel00,cel01,cel02⟩:=L.b0.a3
    (try go_wp2_with fail)
    refine (G5.out _ _ (isD_n (m:=XM) (e:=XE) (s:=.slice A9 (zl XM) c9) (L.getN (by simp))) L.below).mono ?_
    rintro e w43 ⟨n, hn6, hn0, v9, rfl, iz, be⟩
    clear cel00 cel01 cel02
    obtain ⟨A5, c5, rfl, _, in9⟩:=iz.form
    replace L:=(L.step be).n in9
    clear be iz in9
    obtain ⟨hSX, hp, hjk⟩:=HS.out
    have aS:=sm_ab hSX (n:=n) (by omega)
    obtain ⟨t1, t2, t3, t4, t5⟩:=nx (x := -(p : Int)) aS (by omega) (by omega)
    obtain ⟨v1, v2, v3⟩:=nx_shl (k:=j) aS (by omega) (by omega) (show p ≤ 2000 by omega)
    have g6:=fun x W h (hW : Below w.heap.size w W) => dshift_any (mkM (smA (X * X / 2 ^ p) X p n) (-(p : Int))) (mkE (smA (X * X / 2 ^ p) X p n) (-(p : Int))) (j : Int) x W h (by omega) (by omega) (by omega) (HT.out W hW)
    rw [v1, v2, v3] at g6
    have aZ : AbP (smA (X * X / 2 ^ p) X p n * 2 ^ j) (p + 20):=by
     have:=AbP.mul aS (show AbP ((2 : Int) ^ j) j by unfold AbP; rw [Int.natAbs_pow]; exact Nat.le_refl _)
     exact this.up (by omega)
    have HR:=Hd9 (And.intro (HE.out n hn0 hn6) aZ)
    generalize smA (X * X / 2 ^ p) X p n * 2 ^ j = Z at *
    clear v1 v2 v3 t1 t2 t3 t4 t5 aS aZ hn0 hn6 hSX hp HE HS
    obtain ⟨MS, hMS⟩:=nm9 (mkM (smA (X * X / 2 ^ p) X p n) (-(p : Int)))
    rw [hMS] at g6 L ⊢
    clear hMS
    obtain ⟨ES, hES⟩:=nm9 (mkE (smA (X * X / 2 ^ p) X p n) (-(p : Int)))
    rw [hES] at g6 ⊢
    clear hES
    obtain ⟨MZ, hMZ⟩:=nm9 (mkM Z (-(p : Int)))
    obtain ⟨EZ, hEZ⟩:=nm9 (mkE Z (-(p : Int)))
    rw [hMZ, hEZ] at g6
    have HZ:=Hd9 (And.intro hMZ hEZ)
    have G6:=Hd9 g6
    clear g6 hMZ hEZ
    (try go_wp2_with fail)
    refine (G6.out _ _ (isD_n (m:=MS) (e:=ES) (s:=.slice A5 (zl MS) c5) (L.getN (by simp))) L.below).mono ?_
    rintro e w44 ⟨v9, rfl, iz, be⟩
    obtain ⟨A6, c6, rfl, _, in9⟩:=iz.form
    replace L:=(L.step be).n in9
    clear be iz in9
    have hl9:=L.b0.lt
    have L9:=L.subx (ns':=[(.slice A6 (zl MZ) c6, MZ.natAbs)]) (bs':=[(w.heap.size + 1, 26, #[.bool false, .slice none 0 0, .int .i64 0])]) (by simp) (by simp)
    clear L
    have L:=L9
    clear L9
    have n9 : w.heap.size + 1 ≠ w44.heap.size:=by omega
    obtain ⟨cel00,cel01,cel02⟩:=L.b0.a3
    obtain ⟨f00,f01,f02⟩:=L.b0.f3
    have LN:=L.varD w44.heap.size rfl (ng MZ) A6 (zl MZ) c6 EZ
    obtain ⟨v0,v1,v2⟩:=LN.b0.a3
    obtain ⟨v3,v4,v5⟩:=LN.tl.b0.a3
    obtain ⟨v6,v7,v8⟩:=LN.tl.b0.f3
    go_wp2_with fail
    clear cel00 f00 cel01 f01 cel02 f02
    clear v0 v1 v2 v3 v4 v5 v6 v7 v8
    clear L
    have L:=LN.swap
    clear LN
    obtain ⟨hMZ, hEZ⟩:=HZ.out
    obtain ⟨hr1, hr2⟩:=HR.out
    have LP:=L.putD (by omega) (by first | (simp; done) | (simp; omega)) (ng MZ) A6 (zl MZ) c6 (EZ)
    obtain ⟨k0,k1,k2⟩:=LP.b0.a3
    unfold put3 at k0 k1 k2
    exact bodyPost_ret (v:=.agg #[.bool (ng MZ), .slice A6 (zl MZ) c6, .int .i64 (EZ)]) (by simp [results, Tryz.results91, go_sem, k0, k1, k2]) rfl ⟨Z, hr1, hr2, _, rfl, by rw [hMZ, hEZ]; exact isD_n (LP.getN (by simp)), LP.below⟩


end Go.Proofs.YtmgbjldogggpcaaGreatDoor
