/- Plain mathematics of long division: nothing of the program. -/
import Derived.Test.YtajegednakenbaaDoorProdMath
namespace Go.Proofs.YtajegednakenbaaDoor

/-- What is left of the first i digits of t without m times those of b: the digits s, and what is borrowed. -/
def MulSub (t b : List Nat) (m : Nat) (s : List Nat) (i c : Nat) : Prop := s.length = i ∧ Small s ∧ c < W32 ∧ val s + val (b.take i) * m = val (t.take i) + W32 ^ i * c
theorem mulSub_zero (t b : List Nat) (m : Nat) : MulSub t b m [] 0 0 := ⟨rfl, small_nil, W32_pos, by simp [val_nil]⟩
theorem mulSub_step {t b s : List Nat} {m i c u v p d c' : Nat} (h : MulSub t b m s i c) (hu : nth b i = u) (hv : nth t i = v) (hp : p = u * m) (hd : c + p + d = v + 4294967296 * c') (hd2 : d < 4294967296) (hc : c' < 4294967296) :
    MulSub t b m (s ++ [d]) (i + 1) c' := by
  obtain ⟨h1, h2, h3, h4⟩ := h
  refine ⟨by rw [List.length_append, h1]; rfl, small_append h2 (small_one hd2), hc, ?_⟩
  rw [val_append, h1, val_cons, val_nil, Nat.mul_zero, Nat.add_zero, val_take_succ, val_take_succ, hu, hv, Nat.pow_succ, Nat.add_mul, Nat.mul_assoc (W32 ^ i) u m, ← hp, Nat.mul_assoc]
  have := congrArg (W32 ^ i * ·) hd
  simp only [Nat.mul_add] at this
  rw [show (4294967296 : Nat) = W32 from rfl] at this
  omega

/-- A step of the division: s and what is borrowed stand for the rest; the digit is not too small. -/
def DivSt (y n R th dg bw : Nat) (s : List Nat) : Prop := s.length = n ∧ Small s ∧ val s + y * dg + W32 ^ n * th = R + W32 ^ n * bw ∧ R / y ≤ dg
theorem row_top {t : List Nat} {n : Nat} (ht : t.length = n + 1) : val t = val (t.take n) + W32 ^ n * nth t n := by
  rw [← val_take_succ, List.take_of_length_le (by omega)]
/-- The estimated digit is not too small. -/
theorem guess {y n R t0 t1 dv : Nat} {t : List Nat} (ht : t.length = n + 1 + 1) (hs : Small t) (hR : R = val t) (h1 : nth t (n + 1) = t1) (h0 : nth t n = t0) (hy : len y = n + 1) (hdv : nth (dig y) n = dv) (hlt : R < 4294967296 * y) :
    0 < dv ∧ R / y ≤ (t0 + 4294967296 * t1) / dv ∧ R / y ≤ 4294967295 := by
  have hyp : 0 < y := by
    rcases Nat.eq_zero_or_pos y with h | h
    · subst h; rw [len_zero] at hy; omega
    · exact h
  have ey : y = val ((dig y).take n) + W32 ^ n * dv := by
    have := row_top (t := dig y) hy
    rwa [val_dig, hdv] at this
  have hlo := val_lt (small_take (small_dig y) n)
  rw [List.length_take, length_dig, Nat.min_eq_left (by omega)] at hlo
  have hp := pow_len_le hyp
  rw [hy, Nat.add_sub_cancel] at hp
  have hd : 0 < dv := by
    rcases Nat.eq_zero_or_pos dv with h | h
    · subst h; rw [Nat.mul_zero, Nat.add_zero] at ey; omega
    · exact h
  refine ⟨hd, ?_, ?_⟩
  · rw [Nat.le_div_iff_mul_le hd]
    have e1 := row_top ht
    have e2 := val_take_succ t n
    have hl := val_lt (small_take hs n)
    rw [List.length_take, Nat.min_eq_left (by omega)] at hl
    rw [h1] at e1
    rw [h0] at e2
    have hq : R / y * y ≤ R := Nat.div_mul_le_self R y
    have hq2 : W32 ^ n * (R / y * dv) ≤ R / y * y := by
      rw [Nat.mul_left_comm]
      exact Nat.mul_le_mul_left _ (by omega)
    have : W32 ^ n * (R / y * dv) < W32 ^ n * (t0 + 4294967296 * t1 + 1) := by
      have e3 : W32 ^ n * (t0 + 4294967296 * t1 + 1) = W32 ^ n * t0 + W32 ^ (n + 1) * t1 + W32 ^ n := by
        rw [Nat.mul_add, Nat.mul_add, Nat.pow_succ, Nat.mul_assoc, Nat.mul_one]
        rfl
      omega
    have := Nat.lt_of_mul_lt_mul_left this
    omega
  · have : R / y < 4294967296 := (Nat.div_lt_iff_lt_mul hyp).2 hlt
    omega
theorem divSt_start {y n R th dg bw : Nat} {t s : List Nat} (ht : t.length = n + 1) (hR : R = val t) (hth : nth t n = th) (hy : len y = n) (h : MulSub t (dig y) dg s n bw) (hd : R / y ≤ dg) : DivSt y n R th dg bw s := by
  obtain ⟨h1, h2, h3, h4⟩ := h
  refine ⟨h1, h2, ?_, hd⟩
  rw [List.take_of_length_le (Nat.le_of_eq hy), val_dig] at h4
  have := row_top ht
  rw [hth] at this
  omega
theorem divSt_end {y n R th dg bw : Nat} {s : List Nat} (h : DivSt y n R th dg bw s) (hle : bw ≤ th) (hy : len y = n) (hp : 0 < y) : dg = R / y ∧ th = bw ∧ val s = R % y := by
  obtain ⟨h1, h2, h3, h4⟩ := h
  have hm := Nat.mul_le_mul_left (W32 ^ n) hle
  have h5 : dg ≤ R / y := by
    rw [Nat.le_div_iff_mul_le hp, Nat.mul_comm]
    omega
  have h6 : dg = R / y := Nat.le_antisymm h5 h4
  have h7 := Nat.div_add_mod R y
  rw [← h6] at h7
  have h8 := Nat.mod_lt R hp
  have h9 := lt_pow_len y
  rw [hy] at h9
  obtain ⟨e, rfl⟩ : ∃ e, th = bw + e := ⟨th - bw, by omega⟩
  rw [Nat.mul_add] at h3
  have he : e = 0 := by
    rcases Nat.eq_zero_or_pos e with h | h
    · exact h
    · have := Nat.mul_le_mul_left (W32 ^ n) h
      omega
  subst he
  exact ⟨h6, rfl, by omega⟩
theorem divSt_pos {y n R th dg bw : Nat} {s : List Nat} (h : DivSt y n R th dg bw s) (hlt : th < bw) (hp : 0 < y) : R / y < dg := by
  obtain ⟨h1, h2, h3, h4⟩ := h
  have hm := Nat.mul_le_mul_left (W32 ^ n) (show th + 1 ≤ bw from hlt)
  rw [Nat.mul_add] at hm
  have hs := val_lt h2
  rw [h1] at hs
  rw [Nat.div_lt_iff_lt_mul hp, Nat.mul_comm]
  omega
theorem divSt_step {y n R th dg bw c : Nat} {s s' : List Nat} (h : DivSt y n R th dg bw s) (hlt : th < bw) (hp : 0 < y) (hy : len y = n) (ha : MulAdd s (dig y) 1 s' n c) (hc : c ≤ 1) : DivSt y n R th (dg - 1) (bw - c) s' := by
  have h5 := divSt_pos h hlt hp
  have h6 := Nat.lt_of_le_of_lt (Nat.zero_le _) h5
  obtain ⟨h1, h2, h3, h4⟩ := h
  obtain ⟨a1, a2, a3, a4⟩ := ha
  refine ⟨a1, a2, ?_, by omega⟩
  rw [List.take_of_length_le (Nat.le_of_eq h1), List.take_of_length_le (Nat.le_of_eq hy), val_dig, Nat.mul_one] at a4
  obtain ⟨d, rfl⟩ : ∃ d, dg = d + 1 := ⟨dg - 1, by omega⟩
  obtain ⟨b, rfl⟩ : ∃ b, bw = b + c := ⟨bw - c, by omega⟩
  rw [Nat.add_sub_cancel, Nat.add_sub_cancel]
  rw [Nat.mul_add, Nat.mul_one, Nat.mul_add] at h3
  omega

/-- A long division on its way: k digits of the dividend are not yet read. -/
def LongSt (X Y n k : Nat) (lo mid z qs : List Nat) : Prop := lo.length = k ∧ mid.length = n ∧ val z = 0 ∧ val mid < Y ∧ val lo + W32 ^ k * (val mid + Y * val qs) = X
theorem longSt_start {X Y n k : Nat} {R : List Nat} (hs : Small R) (hX : val R = X) (hl : R.length = n + k) (hlt : X < W32 ^ k * Y) : LongSt X Y n k (R.take k) (R.drop k) [] [] := by
  refine ⟨by rw [List.length_take]; omega, by rw [List.length_drop]; omega, rfl, ?_, ?_⟩
  · rw [val_drop R hs, Nat.div_lt_iff_lt_mul (Nat.pow_pos W32_pos), Nat.mul_comm, hX]
    exact hlt
  · rw [val_nil, Nat.mul_zero, Nat.add_zero, ← val_split, hX]
theorem longSt_lt {X Y n k u : Nat} {lo mid z qs : List Nat} (h : LongSt X Y n k lo mid z qs) (hu : u < 4294967296) : val (u :: mid) < 4294967296 * Y := by
  obtain ⟨h1, h2, h3, h4, h5⟩ := h
  rw [val_cons]
  have := Nat.mul_le_mul_left W32 (show val mid + 1 ≤ Y from h4)
  rw [Nat.mul_add] at this
  unfold W32 at this ⊢
  omega
theorem longSt_step {X Y n k u : Nat} {lo mid z qs s : List Nat} (h : LongSt X Y n (k + 1) lo mid z qs) (hu : nth lo k = u) (hY : 0 < Y) (hs : s.length = n) (hv : val s = val (u :: mid) % Y) :
    LongSt X Y n k (lo.take k) s (0 :: z) (val (u :: mid) / Y :: qs) := by
  obtain ⟨h1, h2, h3, h4, h5⟩ := h
  refine ⟨by rw [List.length_take]; omega, hs, by rw [val_cons, h3, Nat.mul_zero], by rw [hv]; exact Nat.mod_lt _ hY, ?_⟩
  have e1 := val_take_succ lo k
  rw [List.take_of_length_le (Nat.le_of_eq h1), hu] at e1
  have e2 := Nat.div_add_mod (val (u :: mid)) Y
  rw [← h5, hv, val_cons (val (u :: mid) / Y), e1, Nat.pow_succ, Nat.add_assoc, Nat.mul_add Y, ← Nat.add_assoc (val (u :: mid) % Y), Nat.add_comm (val (u :: mid) % Y), e2, val_cons]
  simp only [Nat.mul_add, Nat.mul_assoc]
  rw [Nat.mul_left_comm Y W32]
  omega
theorem longSt_end {X Y n : Nat} {lo mid z qs : List Nat} (h : LongSt X Y n 0 lo mid z qs) : val qs = X / Y ∧ val (lo ++ mid ++ z) = X % Y := by
  obtain ⟨h1, h2, h3, h4, h5⟩ := h
  have hl : lo = [] := List.eq_nil_of_length_eq_zero h1
  subst hl
  rw [val_nil, Nat.zero_add, Nat.pow_zero, Nat.one_mul] at h5
  refine ⟨?_, ?_⟩
  · rw [← h5, Nat.add_mul_div_left _ _ (by omega), Nat.div_eq_of_lt h4, Nat.zero_add]
  · rw [List.nil_append, val_append, h3, Nat.mul_zero, Nat.add_zero, ← h5, Nat.add_mul_mod_self_left, Nat.mod_eq_of_lt h4]

/-- Division by one digit, from the top down. -/
def ShortSt (x d k r : Nat) (qs : List Nat) : Prop := Small qs ∧ r < d ∧ val (dig x) = val ((dig x).take k) + W32 ^ k * (r + d * val qs)
theorem shortSt_start (x : Nat) {d : Nat} (hd : 0 < d) : ShortSt x d (len x) 0 [] := ⟨small_nil, hd, by rw [List.take_of_length_le (l := dig x) (Nat.le_of_eq (length_dig x)), val_nil]; simp⟩
theorem shortSt_step {x d k r u : Nat} {qs : List Nat} (h : ShortSt x d (k + 1) r qs) (hu : nth (dig x) k = u) (hu2 : u < 4294967296) : ShortSt x d k ((u + 4294967296 * r) % d) ((u + 4294967296 * r) / d :: qs) ∧ (u + 4294967296 * r) / d < 4294967296 ∧ (u + 4294967296 * r) % d < d := by
  obtain ⟨h1, h2, h3⟩ := h
  have hd : 0 < d := by omega
  have hq : (u + 4294967296 * r) / d < 4294967296 := by
    rw [Nat.div_lt_iff_lt_mul hd]
    omega
  refine ⟨⟨small_cons hq h1, Nat.mod_lt _ hd, ?_⟩, hq, Nat.mod_lt _ hd⟩
  have e := Nat.div_add_mod (u + 4294967296 * r) d
  rw [h3, val_take_succ, hu, val_cons, Nat.mul_add d, ← Nat.add_assoc ((u + 4294967296 * r) % d), Nat.add_comm ((u + 4294967296 * r) % d), e, Nat.pow_succ]
  simp only [Nat.mul_add, Nat.mul_assoc]
  rw [Nat.mul_left_comm d W32, show (4294967296 : Nat) = W32 from rfl]
  omega
theorem shortSt_end {x d r : Nat} {qs : List Nat} (h : ShortSt x d 0 r qs) : trim qs = dig (x / d) ∧ r = x % d := by
  obtain ⟨h1, h2, h3⟩ := h
  rw [val_dig, List.take_zero, val_nil, Nat.zero_add, Nat.pow_zero, Nat.one_mul] at h3
  refine ⟨?_, ?_⟩
  · rw [← dig_val h1]
    congr 1
    rw [h3, Nat.add_mul_div_left _ _ (by omega), Nat.div_eq_of_lt h2, Nat.zero_add]
  · rw [h3, Nat.add_mul_mod_self_left, Nat.mod_eq_of_lt h2]

/-- The reference's way: the rest is a number of its own. -/
theorem shortSt_long {x y k r u : Nat} {qs : List Nat} (h : ShortSt x y (k + 1) r qs) (hu : nth (dig x) k = u) (hu2 : u < 4294967296) : u + 4294967296 * r < 4294967296 * y := by
  obtain ⟨h1, h2, h3⟩ := h
  omega

theorem dig_push {u r : Nat} (hu : u < 4294967296) : trim (u :: dig r) = dig (u + 4294967296 * r) := by
  rw [← dig_val (small_cons hu (small_dig r)), val_cons, val_dig]; rfl
theorem len_push {u r n : Nat} (hu : u < 4294967296) (hr : len r ≤ n) : len (u + 4294967296 * r) ≤ n + 1 := by
  have := len_val_le (small_cons hu (small_dig r))
  rw [val_cons, val_dig, List.length_cons, length_dig] at this
  unfold W32 at this
  omega
theorem len_div (x y : Nat) : len (x / y) ≤ len x := len_mono (Nat.div_le_self _ _)
theorem len_mod {x y : Nat} (h : 0 < y) : len (x % y) ≤ len y := len_mono (Nat.le_of_lt (Nat.mod_lt _ h))

theorem nth_trim {l : List Nat} (i : Nat) (hs : Small l) : nth (dig (val l)) i = nth l i := by
  rw [dig_val hs]
  rcases Nat.lt_or_ge i (trim l).length with h | h
  · have := trim_take l
    rw [← this, nth_eq, nth_eq, List.getElem?_take_of_lt h]
  · rw [nth_of_ge h, nth_eq]
    have h1 := val_split l i
    have h2 := val_take l hs i
    have h3 : val l < W32 ^ i := by
      have := lt_pow_len (val l)
      refine Nat.lt_of_lt_of_le this (Nat.pow_le_pow_right W32_pos ?_)
      unfold len
      rw [dig_val hs]
      exact h
    have h4 := val_take_succ l i
    have h5 := val_take l hs (i + 1)
    rw [Nat.mod_eq_of_lt h3] at h2
    rw [Nat.mod_eq_of_lt (Nat.lt_of_lt_of_le h3 (Nat.pow_le_pow_right W32_pos (by omega)))] at h5
    have h6 : W32 ^ i * nth l i = 0 := by omega
    have h7 : nth l i = 0 := by
      rcases Nat.mul_eq_zero.1 h6 with h | h
      · have := Nat.pow_pos (n := i) W32_pos
        omega
      · exact h
    rw [← nth_eq, h7]

end Go.Proofs.YtajegednakenbaaDoor
