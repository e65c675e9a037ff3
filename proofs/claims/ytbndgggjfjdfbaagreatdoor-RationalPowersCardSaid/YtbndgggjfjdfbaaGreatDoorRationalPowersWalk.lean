/- The walk of RationalPowers: whatever the input, the law returns true and turns nothing that was there. -/
import Derived.Test.YtbndgggjfjdfbaaGreatDoorAwake7
import Derived.Test.YtbndgggjfjdfbaaGreatDoorMillRat
import Derived.Test.YtbndgggjfjdfbaaGreatDoorRatPw
import Derived.Test.YtbndgggjfjdfbaaGreatDoorRefRatP3
import Derived.Test.YtbndgggjfjdfbaaGreatDoorRatQ
import Derived.Test.YtbndgggjfjdfbaaGreatDoorBaseR
import Derived.Deep.RegionHeld3
import Derived.Deep.DrawnRows
namespace Go.Proofs.YtbndgggjfjdfbaaGreatDoor
open Go.RowKit
set_option linter.unusedVariables false
set_option linter.unusedSimpArgs false
set_option maxRecDepth 100000
attribute [local go_sem ↓] Go.wp_at_zero Go.wp_at_succ

/-- What a power is, for any exponent. -/
def pwE (a : Int) (n : Int) : Int := if n < -64 ∨ 64 < n then 1 else if n < 0 ∧ a = 0 then 2 else 0
def pwN (a : Int) (d : Nat) (n : Int) : Int := if n < -64 ∨ 64 < n then 0 else if n < 0 ∧ a = 0 then 0 else if n < 0 then sg (ng a && n.natAbs % 2 == 1) (d ^ n.natAbs) else sg (ng a && n.natAbs % 2 == 1) (a.natAbs ^ n.natAbs)
def pwD (a : Int) (d : Nat) (n : Int) : Nat := if n < -64 ∨ 64 < n then 0 else if n < 0 ∧ a = 0 then 0 else if n < 0 then a.natAbs ^ n.natAbs else d ^ n.natAbs
theorem ppow_all (a : Int) (d : Nat) (n : Int) (vx : Value) (w : World) (hx : IsP w vx a d) (la : zl a ≤ 1000) (ld : len d ≤ 1000) :
    Calls Tryz.prog 37 #[vx, .int .i64 n] w (RetPE w (pwN a d n) (pwD a d n) (pwE a n)) := by
  unfold pwN pwD pwE
  by_cases h1 : n < -64 ∨ 64 < n
  · rw [if_pos h1, if_pos h1, if_pos h1]
    rcases h1 with h | h
    · exact ppower_lo a d n vx w hx h
    · exact ppower_hi a d n vx w hx h
  · rw [if_neg h1, if_neg h1, if_neg h1]
    by_cases h2 : n < 0 ∧ a = 0
    · rw [if_pos h2, if_pos h2, if_pos h2]
      obtain ⟨h3, rfl⟩ := h2
      exact ppower_zero d n vx w hx h3 (by omega)
    · rw [if_neg h2, if_neg h2, if_neg h2]
      by_cases h3 : n < 0
      · rw [if_pos h3, if_pos h3]
        exact ppower_neg n.natAbs a d n (by omega) vx w hx la ld (by omega) (by omega) (fun e => h2 ⟨h3, e⟩)
      · rw [if_neg h3, if_neg h3]
        have h := ppower_nn n.natAbs a d vx w hx la ld (by omega)
        rwa [show ((n.natAbs : Nat) : Int) = n by omega] at h
theorem rpow_all (a : Int) (d : Nat) (n : Int) (vx : Value) (w : World) (hx : IsP w vx a d) (la : zl a ≤ 1000) (ld : len d ≤ 1000) (hd0 : 0 < d) (hgc : Nat.gcd a.natAbs d = 1) :
    Calls Tryz.prog 38 #[vx, .int .i64 n] w (RetPE w (pwN a d n) (pwD a d n) (pwE a n)) := by
  unfold pwN pwD pwE
  by_cases h1 : n < -64 ∨ 64 < n
  · rw [if_pos h1, if_pos h1, if_pos h1]
    rcases h1 with h | h
    · exact rpow7_lo a d n vx w hx h
    · exact rpow7_hi a d n vx w hx h
  · rw [if_neg h1, if_neg h1, if_neg h1]
    by_cases h2 : n < 0 ∧ a = 0
    · rw [if_pos h2, if_pos h2, if_pos h2]
      obtain ⟨h3, rfl⟩ := h2
      exact rpow7_zero n.natAbs d n (by omega) vx w hx la ld (by omega) (by omega) hd0
    · rw [if_neg h2, if_neg h2, if_neg h2]
      by_cases h3 : n < 0
      · rw [if_pos h3, if_pos h3]
        exact rpow7_neg n.natAbs a d n (by omega) vx w hx la ld (by omega) (by omega) hd0 (fun e => h2 ⟨h3, e⟩) hgc
      · rw [if_neg h3, if_neg h3]
        have h := rpow7_nn n.natAbs a d vx w hx la ld (by omega)
        rwa [show ((n.natAbs : Nat) : Int) = n by omega] at h
theorem pwE_range (a n : Int) : 0 ≤ pwE a n ∧ pwE a n ≤ 2 := by unfold pwE; (repeat' split) <;> omega
/-- Powers of natural exponents: products are powers of sums. -/
theorem sg_pow (a : Int) (k : Nat) : sg (ng a && k % 2 == 1) (a.natAbs ^ k) = a ^ k := by
  rcases (show a < 0 ∨ 0 ≤ a by omega) with h | h
  · rw [ng_yes h, Bool.true_and]
    obtain ⟨b, rfl⟩ : ∃ b : Nat, a = -(b : Int) := ⟨a.natAbs, by omega⟩
    rw [Int.natAbs_neg, Int.natAbs_natCast]
    clear h
    induction k with
    | zero => rw [Nat.pow_zero, Int.pow_zero]; rfl
    | succ k ih =>
      rw [Int.pow_succ, ← ih, Nat.pow_succ]
      rcases Nat.mod_two_eq_zero_or_one k with h2 | h2
      · rw [h2, show (k + 1) % 2 = 1 by omega]
        show -((b ^ k * b : Nat) : Int) = ((b ^ k : Nat) : Int) * -(b : Int)
        rw [Int.natCast_mul, Int.mul_neg]
      · rw [h2, show (k + 1) % 2 = 0 by omega]
        show ((b ^ k * b : Nat) : Int) = -((b ^ k : Nat) : Int) * -(b : Int)
        rw [Int.natCast_mul, Int.neg_mul_neg]
  · rw [ng_no h, Bool.false_and]
    obtain ⟨b, rfl⟩ : ∃ b : Nat, a = (b : Int) := ⟨a.natAbs, by omega⟩
    rw [Int.natAbs_natCast]
    exact Int.natCast_pow b k
theorem pw_nat (a : Int) (d k : Nat) (h : k ≤ 64) : pwN a d (k : Int) = a ^ k ∧ pwD a d (k : Int) = d ^ k := by
  unfold pwN pwD
  rw [if_neg (by omega), if_neg (by omega), if_neg (by omega), if_neg (by omega), if_neg (by omega), if_neg (by omega), Int.natAbs_natCast]
  exact ⟨sg_pow a k, rfl⟩
theorem natAbs_pow' (a : Int) (k : Nat) : (a ^ k).natAbs = a.natAbs ^ k := Int.natAbs_pow a k
theorem pow_low {a : Int} {d p q : Nat} (h0 : 0 < d) (h : Nat.gcd a.natAbs d = 1) : (Rat.divInt (a ^ p * a ^ q) (((d ^ p : Nat) : Int) * ((d ^ q : Nat) : Int))).num = a ^ (p + q) ∧ (Rat.divInt (a ^ p * a ^ q) (((d ^ p : Nat) : Int) * ((d ^ q : Nat) : Int))).den = d ^ (p + q) := by
  rw [← Int.natCast_mul, ← Nat.pow_add, ← Int.pow_add]
  obtain ⟨e1, e2⟩ := divInt_nat (a ^ (p + q)) (d ^ (p + q)) (Nat.pow_pos h0)
  have hg : Nat.gcd (a ^ (p + q)).natAbs (d ^ (p + q)) = 1 := by
    rw [natAbs_pow']
    have h1 : Nat.Coprime a.natAbs d := h
    exact (h1.pow_left _).pow_right _
  rw [e1, e2, hg, Nat.div_one, Nat.div_one]
  exact ⟨sg_self _, rfl⟩

set_option maxHeartbeats 8000000 in
theorem walk_RationalPowers (b0 : Bool) (a0 : Option Addr) (len0 cap0 : Nat) (z0 : List Nat) (x0 : Option Addr) (nen0 nap0 : Nat) (y0 : List Nat) (a1 : Int) (a2 : Int) (w : World) (h0 : Sl w a0 len0 cap0 z0 ∧ Sl w x0 nen0 nap0 y0) (h1 : -9223372036854775808 ≤ a1 ∧ a1 ≤ 9223372036854775807) (h2 : -9223372036854775808 ≤ a2 ∧ a2 ≤ 9223372036854775807) (hT : Tab w) :
    Calls Tryz.prog 7 #[.agg #[.bool b0, .slice a0 len0 cap0, .slice x0 nen0 nap0], .int .i64 a1, .int .i64 a2] w (fun e w' => e = .returned (.bool true) ∧ Below w.heap.size w w') := by
  obtain ⟨r1, hr1⟩ : ∃ r : Nat, a1 % 129 = (r : Int) := ⟨(a1 % 129).toNat, by omega⟩
  obtain ⟨r2, hr2⟩ : ∃ r : Nat, a1 % 9 = (r : Int) := ⟨(a1 % 9).toNat, by omega⟩
  obtain ⟨p, hp⟩ : ∃ p : Nat, a1 % 30 = (p : Int) := ⟨(a1 % 30).toNat, by omega⟩
  obtain ⟨q, hq⟩ : ∃ q : Nat, a2 % 30 = (q : Int) := ⟨(a2 % 30).toNat, by omega⟩
  have m1 := fun W => mod_any a1 129 W (by omega) (by omega) h1.1 h1.2
  have m2 := fun W => mod_any a1 9 W (by omega) (by omega) h1.1 h1.2
  have m3 := fun W => mod_any a1 30 W (by omega) (by omega) h1.1 h1.2
  have m4 := fun W => mod_any a2 30 W (by omega) (by omega) h2.1 h2.2
  rw [hr1] at m1
  rw [hr2] at m2
  rw [hp] at m3
  rw [hq] at m4
  have M1 := Lib.hid m1
  have M2 := Lib.hid m2
  have M3 := Lib.hid m3
  have M4 := Lib.hid m4
  have hp3 : p < 30 := by omega
  have hq3 : q < 30 := by omega
  have hr13 : r1 < 129 := by omega
  have hr23 : r2 < 9 := by omega
  clear m1 m2 m3 m4 hr1 hr2 hp hq h1 h2
  go_enter Tryz.func7, Tryz.ntmps7
  go_wp2_with fail
  have L := ((Lq.mk0 w).varQ (w.heap.size) (by simp) b0 a0 x0 len0 cap0 nen0 nap0)
  refine (awake7_any _ (hT.mono L.below)).mono ?_
  rintro e w1 ⟨rfl, be⟩
  replace L := L.step be
  clear be
  have c00 := L.b0.c30
  have c01 := L.b0.c31
  have c02 := L.b0.c32
  go_wp2_with fail
  refine (millRat_any b0 z0 y0 2 a0 x0 len0 cap0 nen0 nap0 _ (h0.1.mono L.below) (h0.2.mono L.below) (by omega)).mono ?_
  rintro e w2 ⟨vx, ok, a, d, rfl, ix, la, ld, hv, be⟩
  clear c00 c01 c02
  replace L := (L.step be).q ix
  obtain ⟨A, c, B, i, rfl, _, _, _⟩ := ix.form
  clear be ix
  have hl0 := L.b0.lt
  replace L := L.varQ w2.heap.size rfl (ng a) A B (zl a) c (len d) i
  cases ok
  · go_wp2_with fail
    go_ret
    exact ⟨rfl, L.below⟩
  · have HV := Lib.hid (hv rfl)
    clear hv
    have hd0 : 0 < d := by obtain ⟨q, _, e1⟩ := HV.out; rw [e1]; exact den_pos' q
    have hgc : Nat.gcd a.natAbs d = 1 := by obtain ⟨q, e1, e2⟩ := HV.out; rw [e1, e2]; exact q.reduced
    have PA := Lib.hid (fun n v W k1 => ppow_all a d n v W k1 (by omega) (by omega))
    have RA := Lib.hid (fun n v W k1 => rpow_all a d n v W k1 (by omega) (by omega) hd0 hgc)
    have pb := fun (k : Nat) (hk : k ≤ 64) v W (k1 : IsP W v a d) => ppow_all a d (k : Int) v W k1 (by omega) (by omega)
    have PU := Lib.hid (show ∀ v W, IsP W v a d → Calls Tryz.prog 37 #[v, .int .i64 (p : Int)] W (RetPE W (a ^ p) (d ^ p) (pwE a (p : Int))) from fun v W k1 => by
      have h := pb p (by omega) v W k1
      rwa [(pw_nat a d p (by omega)).1, (pw_nat a d p (by omega)).2] at h)
    have PV := Lib.hid (show ∀ v W, IsP W v a d → Calls Tryz.prog 37 #[v, .int .i64 (q : Int)] W (RetPE W (a ^ q) (d ^ q) (pwE a (q : Int))) from fun v W k1 => by
      have h := pb q (by omega) v W k1
      rwa [(pw_nat a d q (by omega)).1, (pw_nat a d q (by omega)).2] at h)
    have PS := Lib.hid (show ∀ v W, IsP W v a d → Calls Tryz.prog 37 #[v, .int .i64 ((p : Int) + (q : Int))] W (RetPE W (a ^ (p + q)) (d ^ (p + q)) (pwE a ((p : Int) + (q : Int)))) from fun v W k1 => by
      have h := pb (p + q) (by omega) v W k1
      rwa [(pw_nat a d (p + q) (by omega)).1, (pw_nat a d (p + q) (by omega)).2, Int.natCast_add] at h)
    have lz : ∀ k, k ≤ 30 → zl (a ^ k) ≤ 1000 ∧ len (d ^ k) ≤ 1000 := fun k hk => by
      have l1 := len_pow a.natAbs k
      have l2 := len_pow d k
      have l3 : k * len a.natAbs ≤ 30 * 3 := Nat.mul_le_mul hk la
      have l4 : k * len d ≤ 30 * 3 := Nat.mul_le_mul hk ld
      unfold zl
      rw [natAbs_pow']
      omega
    have mm := fun v u W k1 k2 => pmul_any (a ^ p) (d ^ p) (a ^ q) (d ^ q) v u W k1 k2 (Nat.le_trans (lz p (by omega)).1 (by omega)) (Nat.le_trans (lz p (by omega)).2 (by omega)) (Nat.le_trans (lz q (by omega)).1 (by omega)) (Nat.le_trans (lz q (by omega)).2 (by omega)) (Nat.pow_pos hd0) (Nat.pow_pos hd0)
    unfold RetQ at mm
    rw [(pow_low hd0 hgc).1, (pow_low hd0 hgc).2] at mm
    have MM := Lib.hid mm
    clear mm pb lz hgc hd0 HV la ld hT h0
    generalize a ^ (p + q) = sn at *
    generalize d ^ (p + q) = sd at *
    generalize a ^ p = un at *
    generalize d ^ p = ud at *
    generalize a ^ q = vn at *
    generalize d ^ q = vd at *
    generalize pwE a (p : Int) = e1 at *
    generalize pwE a (q : Int) = e2 at *
    generalize pwE a ((p : Int) + (q : Int)) = e3 at *
    have hw1 : IntKind.i64.wrap ((r1 : Int) - 64) = (r1 : Int) - 64 := by rw [IntKind.wrap_i64]; omega
    have hw2 : IntKind.i64.wrap ((r2 : Int) - 4) = (r2 : Int) - 4 := by rw [IntKind.wrap_i64]; omega
    go_wp2_with fail
    obtain ⟨g, hg⟩ : ∃ g, w2.heap.size = g := ⟨_, rfl⟩
    rw [hg] at L hl0 ⊢
    clear hg
    refine (M1.out _).mono ?_
    rintro e w' ⟨rfl, rfl⟩
    go_wp2_with fail
    refine (M2.out _).mono ?_
    rintro e w' ⟨rfl, rfl⟩
    go_wp2_with fail
    obtain ⟨V1, hV1⟩ : ∃ V1, w2.alloc (.cells #[.bool (ng a), .slice A (zl a) c, .slice B (len d) i] 26) = V1 := ⟨_, rfl⟩
    have hsz1 : V1.heap.size = w2.heap.size + 1 := by rw [← hV1]; simp
    obtain ⟨gs, hgs⟩ : ∃ gs, w2.heap.size + 1 = gs := ⟨_, rfl⟩
    rw [hgs] at hsz1 ⊢
    rw [hV1] at L ⊢
    obtain ⟨V, hV⟩ : ∃ V, V1.alloc (.cells #[.int .i64 a1, .int .i64 ((r1 : Int) - 64), .int .i64 ((r2 : Int) - 4)] 3) = V := ⟨_, rfl⟩
    have hrow : V.heap[gs]? = some (.cells #[.int .i64 a1, .int .i64 ((r1 : Int) - 64), .int .i64 ((r2 : Int) - 4)] 3 (0, 0)) := by rw [← hV, ← hsz1]; exact heap_alloc_new V1 _
    have hgl : gs < V.heap.size := by rw [← hV]; simp; omega
    replace L := L.step ((Below.refl V1.heap.size V1).alloc (Nat.le_refl _) (.cells #[.int .i64 a1, .int .i64 ((r1 : Int) - 64), .int .i64 ((r2 : Int) - 4)] 3))
    rw [hV] at L ⊢
    have HB0 := Lib.hid L.below
    have HCE := Lib.hid (fun (wr : World) (hW : Below V.heap.size V wr) (t : Nat) (ht : t < 3) => (show ∃ N : Int, wr.cell? ⟨gs, t, none⟩ = some (.int .i64 N) from by
      have h1 : wr.heap[gs]? = some (.cells #[.int .i64 a1, .int .i64 ((r1 : Int) - 64), .int .i64 ((r2 : Int) - 4)] 3 (0, 0)) := by rw [hW.block gs hgl]; exact hrow
      rcases (show t = 0 ∨ t = 1 ∨ t = 2 by omega) with rfl | rfl | rfl
      · exact ⟨_, cell_of_row wr gs 0 _ _ _ h1⟩
      · exact ⟨_, cell_of_row wr gs 1 _ _ _ h1⟩
      · exact ⟨_, cell_of_row wr gs 2 _ _ _ h1⟩))
    have GX := Lib.hid (fun (wr : World) (hW : Below V.heap.size V wr) => (L.getQ (v := .agg #[.bool (ng a), .slice A (zl a) c, .slice B (len d) i]) (a := a) (d := d) (by simp)).mono hW)
    have VX := Lib.hid (fun (wr : World) (hW : Below V.heap.size V wr) => L.b0.mono hW)
    have hwV := L.below.size
    clear hV hrow hgl hV1 hsz1 hgs L M1 M2 hw1 hw2 hr13 hr23
    go_loopw [41] (fun i wr => ∃ t : Nat, i = .int .i64 (t : Int) ∧ t ≤ 3 ∧ Below V.heap.size V wr) (fun i _ => 3 - (intOf i).toNat)
    case atStart => exact ⟨0, rfl, by omega, Below.refl _ _⟩
    case round =>
      obtain ⟨t, rfl, ht, hbe⟩ := hrel
      have hbs := hbe.size
      have hVX := VX.out wr hbe
      have L : Lq wr wr [] [] [(.agg #[.bool (ng a), .slice A (zl a) c, .slice B (len d) i], a, d)] [(g, 26, #[.bool (ng a), .slice A (zl a) c, .slice B (len d) i])] := ((Lq.mk0 wr).q (GX.out wr hbe)).b hVX
      have hl0 := hVX.lt
      clear hVX
      rcases Nat.eq_or_lt_of_le ht with rfl | ht3
      · go_wp2_with fail
        refine (M3.out _).mono ?_
        rintro e w' ⟨rfl, rfl⟩
        go_wp2_with fail
        refine (M4.out _).mono ?_
        rintro e w' ⟨rfl, rfl⟩
        have c00 := L.b0.c30
        have c01 := L.b0.c31
        have c02 := L.b0.c32
        have hwp : IntKind.i64.wrap ((p : Int) + (q : Int)) = (p : Int) + (q : Int) := by rw [IntKind.wrap_i64]; omega
        go_wp2_with fail
        refine (PU.out _ _ (L.getQ (by simp))).mono ?_
        rintro e w21 ⟨v, rfl, iq, be⟩
        clear c00 c01 c02
        replace L := (L.step be).q iq
        obtain ⟨A3, c3, B3, d3, rfl, _, _, _⟩ := iq.form
        clear be iq
        have hl3 := L.b0.lt
        replace L := L.varQ w21.heap.size rfl (ng un) A3 B3 (zl un) c3 (len ud) d3
        have c00 := L.b0.c30
        have c01 := L.b0.c31
        have c02 := L.b0.c32
        have c10 := L.tl.b0.c30
        have c11 := L.tl.b0.c31
        have c12 := L.tl.b0.c32
        go_wp2_with fail
        clear c00 c01 c02 c10 c11 c12
        obtain ⟨gu, hg⟩ : ∃ g, w21.heap.size = g := ⟨_, rfl⟩
        rw [hg] at L hl3 ⊢
        clear hg
        have c00 := L.b0.c30
        have c01 := L.b0.c31
        have c02 := L.b0.c32
        have c10 := L.tl.b0.c30
        have c11 := L.tl.b0.c31
        have c12 := L.tl.b0.c32
        clear PU
        refine (PV.out _ _ (L.getQ (by simp))).mono ?_
        rintro e w22 ⟨v, rfl, iq, be⟩
        clear c00 c01 c02 c10 c11 c12
        replace L := (L.step be).q iq
        obtain ⟨A4, c4, B4, d4, rfl, _, _, _⟩ := iq.form
        clear be iq
        have hl4 := L.b0.lt
        replace L := L.varQ w22.heap.size rfl (ng vn) A4 B4 (zl vn) c4 (len vd) d4
        have c00 := L.b0.c30
        have c01 := L.b0.c31
        have c02 := L.b0.c32
        have c10 := L.tl.b0.c30
        have c11 := L.tl.b0.c31
        have c12 := L.tl.b0.c32
        have c20 := L.tl.tl.b0.c30
        have c21 := L.tl.tl.b0.c31
        have c22 := L.tl.tl.b0.c32
        go_wp2_with fail
        clear c00 c01 c02 c10 c11 c12 c20 c21 c22
        obtain ⟨gv, hg⟩ : ∃ g, w22.heap.size = g := ⟨_, rfl⟩
        rw [hg] at L hl4 ⊢
        clear hg
        have c00 := L.b0.c30
        have c01 := L.b0.c31
        have c02 := L.b0.c32
        have c10 := L.tl.b0.c30
        have c11 := L.tl.b0.c31
        have c12 := L.tl.b0.c32
        have c20 := L.tl.tl.b0.c30
        have c21 := L.tl.tl.b0.c31
        have c22 := L.tl.tl.b0.c32
        refine (PS.out _ _ (L.getQ (by simp))).mono ?_
        rintro e w23 ⟨v, rfl, iq, be⟩
        clear c00 c01 c02 c10 c11 c12 c20 c21 c22
        replace L := (L.step be).q iq
        obtain ⟨A5, c5, B5, d5, rfl, _, _, _⟩ := iq.form
        clear be iq
        have hl5 := L.b0.lt
        replace L := L.varQ w23.heap.size rfl (ng sn) A5 B5 (zl sn) c5 (len sd) d5
        have c00 := L.b0.c30
        have c01 := L.b0.c31
        have c02 := L.b0.c32
        have c10 := L.tl.b0.c30
        have c11 := L.tl.b0.c31
        have c12 := L.tl.b0.c32
        have c20 := L.tl.tl.b0.c30
        have c21 := L.tl.tl.b0.c31
        have c22 := L.tl.tl.b0.c32
        have c30 := L.tl.tl.tl.b0.c30
        have c31 := L.tl.tl.tl.b0.c31
        have c32 := L.tl.tl.tl.b0.c32
        go_wp2_with fail
        clear c00 c01 c02 c10 c11 c12 c20 c21 c22 c30 c31 c32
        obtain ⟨gt, hg⟩ : ∃ g, w23.heap.size = g := ⟨_, rfl⟩
        rw [hg] at L hl5 ⊢
        clear hg
        have c00 := L.b0.c30
        have c01 := L.b0.c31
        have c02 := L.b0.c32
        have c10 := L.tl.b0.c30
        have c11 := L.tl.b0.c31
        have c12 := L.tl.b0.c32
        have c20 := L.tl.tl.b0.c30
        have c21 := L.tl.tl.b0.c31
        have c22 := L.tl.tl.b0.c32
        have c30 := L.tl.tl.tl.b0.c30
        have c31 := L.tl.tl.tl.b0.c31
        have c32 := L.tl.tl.tl.b0.c32
        clear c00 c01 c02 c10 c11 c12 c20 c21 c22 c30 c31 c32
        replace L := L.drew
        have S0 := Lib.hid (fun v u W k1 k2 => same7_yes sn sd v u W k1 k2)
        have c00 := L.b0.c30
        have c01 := L.b0.c31
        have c02 := L.b0.c32
        have c10 := L.tl.b0.c30
        have c11 := L.tl.b0.c31
        have c12 := L.tl.b0.c32
        have c20 := L.tl.tl.b0.c30
        have c21 := L.tl.tl.b0.c31
        have c22 := L.tl.tl.b0.c32
        have c30 := L.tl.tl.tl.b0.c30
        have c31 := L.tl.tl.tl.b0.c31
        have c32 := L.tl.tl.tl.b0.c32
        go_region_held3 (fun w' => w'.cell? ⟨gt, 0, none⟩ = some (.bool (ng sn)) ∧ w'.cell? ⟨gt, 1, none⟩ = some (.slice A5 (zl sn) c5) ∧ w'.cell? ⟨gt, 2, none⟩ = some (.slice B5 (len sd) d5) ∧ w'.cell? ⟨gv, 0, none⟩ = some (.bool (ng vn)) ∧ w'.cell? ⟨gv, 1, none⟩ = some (.slice A4 (zl vn) c4) ∧ w'.cell? ⟨gv, 2, none⟩ = some (.slice B4 (len vd) d4) ∧ w'.cell? ⟨gu, 0, none⟩ = some (.bool (ng un)) ∧ w'.cell? ⟨gu, 1, none⟩ = some (.slice A3 (zl un) c3) ∧ w'.cell? ⟨gu, 2, none⟩ = some (.slice B3 (len ud) d3)) (first | (with_reducible exact ⟨L.b0.c30, L.b0.c31, L.b0.c32, L.tl.b0.c30, L.tl.b0.c31, L.tl.b0.c32, L.tl.tl.b0.c30, L.tl.tl.b0.c31, L.tl.tl.b0.c32⟩) | exact ⟨L.b0.c30, L.b0.c31, L.b0.c32, L.tl.b0.c30, L.tl.b0.c31, L.tl.b0.c32, L.tl.tl.b0.c30, L.tl.tl.b0.c31, L.tl.tl.b0.c32⟩) (first | (go_at_call 23; (with_reducible refine (MM.out _ _ _ ?_ ?_ ).mono ?_); (· (refine L.getQ ?_; (repeat (first | (with_reducible exact List.mem_cons_self) | apply List.mem_cons_of_mem)))); (· (refine L.getQ ?_; (repeat (first | (with_reducible exact List.mem_cons_self) | apply List.mem_cons_of_mem)))); rintro e wh ⟨vh, rfl, iq, be⟩; replace L := (L.step be).q iq; clear be iq) | (go_at_call 15; (with_reducible refine (S0.out _ _ _ ?_ ?_ ).mono ?_); (· (refine L.getQ ?_; (repeat (first | (with_reducible exact List.mem_cons_self) | apply List.mem_cons_of_mem)))); (· (refine L.getQ ?_; (repeat (first | (with_reducible exact List.mem_cons_self) | apply List.mem_cons_of_mem)))); rintro e wh ⟨rfl, be⟩; replace L := L.step be; clear be))
        clear c00 c01 c02 c10 c11 c12 c20 c21 c22 c30 c31 c32
        go_wp2_with fail
        go_ret
        exact ⟨rfl, HB0.out.trans ((hbe.trans (L.below.mono hbs)).mono hwV)⟩
      · obtain ⟨N, hN⟩ := HCE.out wr hbe t ht3
        have hlt : (t : Int) < 3 := by omega
        have ht0 : (0 : Int) ≤ (t : Int) := by omega
        have PN := Lib.hid (PA.out N)
        have RN := Lib.hid (RA.out N)
        have hER := pwE_range a N
        have S0 := Lib.hid (fun v u W k1 k2 => same7_yes (pwN a d N) (pwD a d N) v u W k1 k2)
        generalize pwN a d N = rn at *
        generalize pwD a d N = rd at *
        generalize pwE a N = E at *
        have hE1 : (E == E) = true := by simp
        have hE2 : (E != E) = false := by simp
        clear PU PV PS MM
        have c00 := L.b0.c30
        have c01 := L.b0.c31
        have c02 := L.b0.c32
        go_wp2_with fail
        refine (PN.out _ _ (L.getQ (by simp))).mono ?_
        rintro e w31 ⟨v, rfl, iq, be⟩
        clear c00 c01 c02
        replace L := (L.step be).q iq
        obtain ⟨A3, c3, B3, d3, rfl, _, _, _⟩ := iq.form
        clear be iq
        have hl3 := L.b0.lt
        replace L := L.varQ w31.heap.size rfl (ng rn) A3 B3 (zl rn) c3 (len rd) d3
        have c00 := L.b0.c30
        have c01 := L.b0.c31
        have c02 := L.b0.c32
        have c10 := L.tl.b0.c30
        have c11 := L.tl.b0.c31
        have c12 := L.tl.b0.c32
        go_wp2_with fail
        clear c00 c01 c02 c10 c11 c12
        obtain ⟨gr, hg⟩ : ∃ g, w31.heap.size = g := ⟨_, rfl⟩
        rw [hg] at L hl3 ⊢
        clear hg
        have c00 := L.b0.c30
        have c01 := L.b0.c31
        have c02 := L.b0.c32
        have c10 := L.tl.b0.c30
        have c11 := L.tl.b0.c31
        have c12 := L.tl.b0.c32
        refine (RN.out _ _ (L.getQ (by simp))).mono ?_
        rintro e w32 ⟨v, rfl, iq, be⟩
        clear c00 c01 c02 c10 c11 c12
        replace L := (L.step be).q iq
        obtain ⟨A4, c4, B4, d4, rfl, _, _, _⟩ := iq.form
        clear be iq
        have hl4 := L.b0.lt
        replace L := L.varQ w32.heap.size rfl (ng rn) A4 B4 (zl rn) c4 (len rd) d4
        have c00 := L.b0.c30
        have c01 := L.b0.c31
        have c02 := L.b0.c32
        have c10 := L.tl.b0.c30
        have c11 := L.tl.b0.c31
        have c12 := L.tl.b0.c32
        have c20 := L.tl.tl.b0.c30
        have c21 := L.tl.tl.b0.c31
        have c22 := L.tl.tl.b0.c32
        go_wp2_with fail
        clear c00 c01 c02 c10 c11 c12 c20 c21 c22
        obtain ⟨gw, hg⟩ : ∃ g, w32.heap.size = g := ⟨_, rfl⟩
        rw [hg] at L hl4 ⊢
        clear hg
        have c00 := L.b0.c30
        have c01 := L.b0.c31
        have c02 := L.b0.c32
        have c10 := L.tl.b0.c30
        have c11 := L.tl.b0.c31
        have c12 := L.tl.b0.c32
        have c20 := L.tl.tl.b0.c30
        have c21 := L.tl.tl.b0.c31
        have c22 := L.tl.tl.b0.c32
        refine (S0.out _ _ _ (L.getQ (by simp)) (L.getQ (by simp))).mono ?_
        rintro e w33 ⟨rfl, be⟩
        replace L := L.step be
        clear be
        clear c00 c01 c02 c10 c11 c12 c20 c21 c22
        go_wp2_with fail
        go_roundw
        case rel => exact ⟨t + 1, by go_num, by omega, hbe.trans (L.below.mono hbs)⟩
        case measure => simp [intOf]; omega

end Go.Proofs.YtbndgggjfjdfbaaGreatDoor
