/- The walk of RationalDecimals: whatever the input, the law returns true and turns nothing that was there. -/
import Derived.Test.YtbndgggjfjdfbabGreatDoorAwake7
import Derived.Test.YtbndgggjfjdfbabGreatDoorMillRat
import Derived.Test.YtbndgggjfjdfbabGreatDoorRefDec
import Derived.Test.YtbndgggjfjdfbabGreatDoorRatT2
import Derived.Test.YtbndgggjfjdfbabGreatDoorRefRatP3
import Derived.Test.YtbndgggjfjdfbabGreatDoorBaseR
import Derived.Test.YtbndgggjfjdfbabGreatDoorRatWays
import Derived.Deep.RegionHeld3
import Derived.Deep.DrawnRows
import Derived.Deep.Cut
import Derived.Deep.CutRange
namespace Go.Proofs.YtbndgggjfjdfbabGreatDoor
open Go.RowKit
set_option linter.unusedVariables false
set_option linter.unusedSimpArgs false
set_option maxRecDepth 100000
attribute [local go_sem ↓] Go.wp_at_zero Go.wp_at_succ

theorem dd_len {N k : Nat} (h : N < 10 ^ k) (hk : 0 < k) : (dd N).length ≤ k := by
  rcases Nat.eq_zero_or_pos N with h0 | h0
  · rw [h0, dd_zero]; exact hk
  · rw [dd_pos h0, List.length_reverse]; exact rd_length h
theorem pt_length (D : List Nat) (m : Nat) : (pt D m).length ≤ max D.length (m + 1) + 1 := by
  unfold pt
  split
  · omega
  · rw [List.length_append, List.length_cons, List.length_take, List.length_drop, pad_length]; omega
/-- A fraction is read from its decimal. -/
theorem back_pt {a : Int} {d u f : Nat} (h0 : 0 ≤ a) (hg : Nat.gcd a.natAbs d = 1) (hd : d = 2 ^ u * 5 ^ f) (hl : (pt (dd (a.natAbs * (10 ^ max u f / (2 ^ u * 5 ^ f)))) (max u f)).length ≤ 400) :
    errD (pt (dd (a.natAbs * (10 ^ max u f / (2 ^ u * 5 ^ f)))) (max u f)) = 0 ∧ numD (pt (dd (a.natAbs * (10 ^ max u f / (2 ^ u * 5 ^ f)))) (max u f)) = a ∧ denD (pt (dd (a.natAbs * (10 ^ max u f / (2 ^ u * 5 ^ f)))) (max u f)) = d := by
  have hu := up_of (a := a.natAbs) (u := u) (f := f) (by rw [← hd]; exact hg)
  obtain ⟨p1, p2, p3⟩ := pt_ok hu
  have hd0 : 0 < d := by rw [hd]; exact Nat.mul_pos (Nat.pow_pos (by omega)) (Nat.pow_pos (by omega))
  have hdv : d * (10 ^ max u f / d) = 10 ^ max u f := Nat.mul_div_cancel' (by rw [hd]; exact dvd_ten u f)
  rw [← hd] at p1 p2 p3 hl ⊢
  generalize max u f = m at *
  obtain ⟨t, ht⟩ : ∃ t, 10 ^ m / d = t := ⟨_, rfl⟩
  rw [ht] at p1 p2 p3 hl hdv ⊢
  have ht0 : 0 < t := by
    rcases Nat.eq_zero_or_pos t with h | h
    · rw [h, Nat.mul_zero] at hdv
      have := Nat.pow_pos (n := m) (show 0 < 10 by omega)
      omega
    · exact h
  generalize pt (dd (a.natAbs * t)) m = T at *
  have he : errD T = 0 := by unfold errD; rw [if_neg (by omega), p1]; rfl
  have hv : (valD T).num = a ∧ (valD T).den = d := by
    unfold valD
    rw [p2, p3]
    obtain ⟨e1, e2⟩ := divInt_nat ((a.natAbs * t : Nat) : Int) (10 ^ m) (Nat.pow_pos (by omega))
    rw [e1, e2, ng_nat, Int.natAbs_natCast, ← hdv, Nat.gcd_mul_right, hg, Nat.one_mul, Nat.mul_div_cancel _ ht0, Nat.mul_div_cancel _ ht0]
    exact ⟨sg_nonneg h0, rfl⟩
  unfold numD denD
  rw [if_pos he, if_pos he]
  exact ⟨he, hv.1, hv.2⟩
theorem small_dec {a : Int} {d u f : Nat} (la : zl a ≤ 5) (ld : len d ≤ 5) (hd : d = 2 ^ u * 5 ^ f) : max u f ≤ 160 ∧ (pt (dd (a.natAbs * (10 ^ max u f / (2 ^ u * 5 ^ f)))) (max u f)).length ≤ 400 := by
  have hd0 : 0 < d := by rw [hd]; exact Nat.mul_pos (Nat.pow_pos (by omega)) (Nat.pow_pos (by omega))
  have htz : tz d = u := by rw [hd, tz_25]
  have hu : u ≤ 160 := by have := tz_le d hd0; omega
  have hf : f ≤ 160 := five_le (l := 5) (by rw [htz]; exact hd) hd0 ld
  have hm : max u f ≤ 160 := by omega
  refine ⟨hm, ?_⟩
  have h1 : a.natAbs < 10 ^ 50 := Nat.lt_of_lt_of_le (len_le_iff.1 (show len a.natAbs ≤ 5 from la)) (pow_W32_le 5)
  have h2 : 10 ^ max u f / (2 ^ u * 5 ^ f) ≤ 10 ^ 160 := Nat.le_trans (Nat.div_le_self _ _) (Nat.pow_le_pow_right (by omega) hm)
  have h3 : a.natAbs * (10 ^ max u f / (2 ^ u * 5 ^ f)) < 10 ^ (50 + 160) := by
    rw [Nat.pow_add]
    exact Nat.lt_of_le_of_lt (Nat.mul_le_mul_left _ h2) (Nat.mul_lt_mul_of_pos_right h1 (Nat.pow_pos (by omega)))
  have h4 := dd_len h3 (by omega)
  have h5 := pt_length (dd (a.natAbs * (10 ^ max u f / (2 ^ u * 5 ^ f)))) (max u f)
  omega
theorem sg_plus (k b : Nat) : sg (ng ((b : Nat) : Int) && k % 2 == 1) (((b : Nat) : Int).natAbs ^ k) = ((b ^ k : Nat) : Int) := by
  rw [ng_nat, Bool.false_and, Int.natAbs_natCast]; rfl

set_option maxHeartbeats 8000000 in
theorem walk_RationalDecimals (b0 : Bool) (a0 : Option Addr) (len0 cap0 : Nat) (z0 : List Nat) (x0 : Option Addr) (nen0 nap0 : Nat) (y0 : List Nat) (a1 : Int) (a2 : Int) (w : World) (h0 : Sl w a0 len0 cap0 z0 ∧ Sl w x0 nen0 nap0 y0) (h1 : -9223372036854775808 ≤ a1 ∧ a1 ≤ 9223372036854775807) (h2 : -9223372036854775808 ≤ a2 ∧ a2 ≤ 9223372036854775807) (hT : Tab w) :
    Calls Tryz.prog 4 #[.agg #[.bool b0, .slice a0 len0 cap0, .slice x0 nen0 nap0], .int .i64 a1, .int .i64 a2] w (fun e w' => e = .returned (.bool true) ∧ Below w.heap.size w w') := by
  obtain ⟨p, hp⟩ : ∃ p : Nat, a1 % 20 = (p : Int) := ⟨(a1 % 20).toNat, by omega⟩
  obtain ⟨q, hq⟩ : ∃ q : Nat, a2 % 20 = (q : Int) := ⟨(a2 % 20).toNat, by omega⟩
  have m1 := fun W => mod_any a1 20 W (by omega) (by omega) h1.1 h1.2
  have m2 := fun W => mod_any a2 20 W (by omega) (by omega) h2.1 h2.2
  rw [hp] at m1
  rw [hq] at m2
  have M1 := Lib.hid m1
  have M2 := Lib.hid m2
  have hp3 : p < 20 := by omega
  have hq3 : q < 20 := by omega
  clear m1 m2 hp hq h1 h2
  have o2 := fun W => rofn7_any 2 W (by omega) (by omega)
  have o5 := fun W => rofn7_any 5 W (by omega) (by omega)
  have o1 := fun W => rofn7_any 1 W (by omega) (by omega)
  unfold RetQ at o2 o5 o1
  rw [show ((2 : Int) : Rat).num = 2 from rfl, show ((2 : Int) : Rat).den = 1 from rfl] at o2
  rw [show ((5 : Int) : Rat).num = 5 from rfl, show ((5 : Int) : Rat).den = 1 from rfl] at o5
  rw [show ((1 : Int) : Rat).num = 1 from rfl, show ((1 : Int) : Rat).den = 1 from rfl] at o1
  have O2 := Lib.hid o2
  have O5 := Lib.hid o5
  have O1 := Lib.hid o1
  have s1 : ∀ n : Nat, n < 4294967296 → len n ≤ 1 := fun n h => len_le1 h
  have w2 := fun v W k1 => rpow7_nn p 2 1 v W k1 (Nat.le_trans (s1 2 (by omega)) (by omega)) (Nat.le_trans (s1 1 (by omega)) (by omega)) (by omega)
  have w5 := fun v W k1 => rpow7_nn q 5 1 v W k1 (Nat.le_trans (s1 5 (by omega)) (by omega)) (Nat.le_trans (s1 1 (by omega)) (by omega)) (by omega)
  rw [show (2 : Int) = ((2 : Nat) : Int) from rfl, sg_plus, Nat.one_pow] at w2
  rw [show (5 : Int) = ((5 : Nat) : Int) from rfl, sg_plus, Nat.one_pow] at w5
  have W2 := Lib.hid w2
  have W5 := Lib.hid w5
  clear o2 o5 o1 w2 w5
  have lp : ∀ b k : Nat, b ≤ 10 → k < 20 → len (b ^ k) ≤ 21 := fun b k hb hk => by
    have h1 := len_pow b k
    have h2 : k * len b ≤ 19 * 1 := Nat.mul_le_mul (by omega) (s1 b (by omega))
    omega
  have lp2 := lp 2 p (by omega) hp3
  have lp5 := lp 5 q (by omega) hq3
  have l1 : len 1 ≤ 1 := s1 1 (by omega)
  have zp2 : zl ((2 ^ p : Nat) : Int) ≤ 21 := lp2
  have zp5 : zl ((5 ^ q : Nat) : Int) ≤ 21 := lp5
  have mm := fun v u W k1 k2 => rmul7_any ((2 ^ p : Nat) : Int) 1 ((5 ^ q : Nat) : Int) 1 v u W k1 k2 (by omega) (by omega) (by omega) (by omega) (by omega) (by omega)
  unfold RetQ at mm
  rw [← Int.natCast_mul, show ((1 : Nat) : Int) * ((1 : Nat) : Int) = 1 from rfl, rat_of, show ((((2 ^ p * 5 ^ q : Nat) : Int)) : Rat).num = ((2 ^ p * 5 ^ q : Nat) : Int) from rfl, show ((((2 ^ p * 5 ^ q : Nat) : Int)) : Rat).den = 1 from rfl] at mm
  have MM := Lib.hid mm
  have hT0 : 0 < 2 ^ p * 5 ^ q := Nat.mul_pos (Nat.pow_pos (by omega)) (Nat.pow_pos (by omega))
  have hTl : len (2 ^ p * 5 ^ q) ≤ 2 := by
    refine len_le_iff.2 (Nat.lt_of_le_of_lt (Nat.mul_le_mul (Nat.pow_le_pow_right (by omega) (show p ≤ 19 by omega)) (Nat.pow_le_pow_right (by omega) (show q ≤ 19 by omega))) ?_)
    unfold W32
    decide
  clear mm lp lp2 lp5 zp2 zp5 hp3 hq3 s1
  generalize 2 ^ p * 5 ^ q = T at *
  generalize ((2 ^ p : Nat) : Int) = tn at *
  generalize ((5 ^ q : Nat) : Int) = fn at *
  go_enter Tryz.func4, Tryz.ntmps4
  go_wp2_with fail
  have L := ((Lq.mk0 w).varQ (w.heap.size) (by simp) b0 a0 x0 len0 cap0 nen0 nap0)
  refine (awake7_any _ (hT.mono L.below)).mono ?_
  rintro e w1 ⟨rfl, be⟩
  replace L := L.step be
  clear be
  have c00 := L.b0.c30
  have c01 := L.b0.c31
  have c02 := L.b0.c32
  go_wp2_with fail
  refine (millRat_any b0 z0 y0 4 a0 x0 len0 cap0 nen0 nap0 _ (h0.1.mono L.below) (h0.2.mono L.below) (by omega)).mono ?_
  rintro e w2 ⟨vx, ok, a, d, rfl, ix, la, ld, hv, be⟩
  clear c00 c01 c02
  replace L := (L.step be).q ix
  obtain ⟨A, c, B, i, rfl, izx, _, inx⟩ := ix.form
  replace L := (L.z izx).n inx
  clear be ix izx inx
  have hl0 := L.b0.lt
  replace L := L.varQ w2.heap.size rfl (ng a) A B (zl a) c (len d) i
  cases ok
  · go_wp2_with fail
    go_ret
    exact ⟨rfl, L.below⟩
  · have HV := Lib.hid (hv rfl)
    clear hv
    have hd0 : 0 < d := by obtain ⟨q, _, e1⟩ := HV.out; rw [e1]; exact den_pos' q
    have hgc : Nat.gcd a.natAbs d = 1 := by obtain ⟨q, e1, e2⟩ := HV.out; rw [e1, e2]; exact q.reduced
    have hTz : ((1 : Nat) : Int) * (T : Int) = (T : Int) := Int.one_mul _
    have ha1 : a * ((1 : Nat) : Int) = a := Int.mul_one _
    have zT : zl (T : Int) ≤ 2 := hTl
    have dd' := fun v u W k1 k2 => rdiv7_any a 1 (T : Int) 1 v u W k1 k2 (by omega) (by omega) (by omega) (by omega) (by omega) (by omega)
    rw [hTz, ha1] at dd'
    have DV := Lib.hid dd'
    have hy : zl (Rat.divInt a (T : Int)).num ≤ 5 ∧ len (Rat.divInt a (T : Int)).den ≤ 5 := divInt_small a T 5 (by omega) (by omega) hT0
    have hyd : 0 < (Rat.divInt a (T : Int)).den := den_pos' _
    have hyg : Nat.gcd (Rat.divInt a (T : Int)).num.natAbs (Rat.divInt a (T : Int)).den = 1 := (Rat.divInt a (T : Int)).reduced
    have HX := Lib.hid (show zl a ≤ 5 ∧ len d ≤ 5 ∧ 0 < d ∧ Nat.gcd a.natAbs d = 1 from ⟨la, ld, hd0, hgc⟩)
    have HY := Lib.hid (show zl (Rat.divInt a (T : Int)).num ≤ 5 ∧ len (Rat.divInt a (T : Int)).den ≤ 5 ∧ 0 < (Rat.divInt a (T : Int)).den ∧ Nat.gcd (Rat.divInt a (T : Int)).num.natAbs (Rat.divInt a (T : Int)).den = 1 from ⟨hy.1, hy.2, hyd, hyg⟩)
    clear dd' hTz ha1 zT hy hyd hyg hT0 hTl HV la ld hd0 hgc h0
    generalize (Rat.divInt a (T : Int)).num = yn at *
    generalize (Rat.divInt a (T : Int)).den = yd at *
    generalize (T : Int) = Tz at *
    go_wp2_with fail
    obtain ⟨g, hg⟩ : ∃ g, w2.heap.size = g := ⟨_, rfl⟩
    rw [hg] at L hl0 ⊢
    clear hg
    refine (O2.out _).mono ?_
    rintro e w3 ⟨v, rfl, iq, be⟩
    replace L := (L.step be).q iq
    clear be iq
    go_wp2_with fail
    refine (M1.out _).mono ?_
    rintro e w' ⟨rfl, rfl⟩
    go_wp2_with fail
    refine (W2.out _ _ L.hq).mono ?_
    rintro e w4 ⟨v, rfl, iq, be⟩
    replace L := (L.step be).q iq
    obtain ⟨A3, c3, B3, d3, rfl, _, _, _⟩ := iq.form
    clear be iq
    have hl3 := L.b0.lt
    replace L := L.varQ w4.heap.size rfl (ng tn) A3 B3 (zl tn) c3 (len 1) d3
    go_wp2_with fail
    obtain ⟨ga, hg⟩ : ∃ g, w4.heap.size = g := ⟨_, rfl⟩
    rw [hg] at L hl3 ⊢
    clear hg
    refine (O5.out _).mono ?_
    rintro e w5 ⟨v, rfl, iq, be⟩
    replace L := (L.step be).q iq
    clear be iq
    go_wp2_with fail
    refine (M2.out _).mono ?_
    rintro e w' ⟨rfl, rfl⟩
    go_wp2_with fail
    refine (W5.out _ _ L.hq).mono ?_
    rintro e w6 ⟨v, rfl, iq, be⟩
    replace L := (L.step be).q iq
    obtain ⟨A4, c4, B4, d4, rfl, _, _, _⟩ := iq.form
    clear be iq
    have hl4 := L.b0.lt
    replace L := L.varQ w6.heap.size rfl (ng fn) A4 B4 (zl fn) c4 (len 1) d4
    go_wp2_with fail
    obtain ⟨gb, hg⟩ : ∃ g, w6.heap.size = g := ⟨_, rfl⟩
    rw [hg] at L hl4 ⊢
    clear hg
    obtain ⟨V, hV⟩ : ∃ V, w6.alloc (.cells #[.bool (ng fn), .slice A4 (zl fn) c4, .slice B4 (len 1) d4] 26) = V := ⟨_, rfl⟩
    rw [hV] at L ⊢
    clear hV
    have hgm0 := L.b0.lt
    have Q0 := Lib.hid (fun Z (hZ : Below V.heap.size V Z) => (L.tl.tl.b0.mono hZ).c30)
    have Q1 := Lib.hid (fun Z (hZ : Below V.heap.size V Z) => (L.tl.tl.b0.mono hZ).c31)
    have Q2 := Lib.hid (fun Z (hZ : Below V.heap.size V Z) => (L.tl.b0.mono hZ).c30)
    have Q3 := Lib.hid (fun Z (hZ : Below V.heap.size V Z) => (L.tl.b0.mono hZ).c31)
    have Q4 := Lib.hid (fun Z (hZ : Below V.heap.size V Z) => (L.tl.b0.mono hZ).c32)
    have Q5 := Lib.hid (fun Z (hZ : Below V.heap.size V Z) => (L.b0.mono hZ).c30)
    have Q6 := Lib.hid (fun Z (hZ : Below V.heap.size V Z) => (L.b0.mono hZ).c31)
    have Q7 := Lib.hid (fun Z (hZ : Below V.heap.size V Z) => (L.b0.mono hZ).c32)
    have GT := Lib.hid (L.getQ (v := .agg #[.bool (ng tn), .slice A3 (zl tn) c3, .slice B3 (len 1) d3]) (a := tn) (d := 1) (by simp))
    have GF := Lib.hid (L.getQ (v := .agg #[.bool (ng fn), .slice A4 (zl fn) c4, .slice B4 (len 1) d4]) (a := fn) (d := 1) (by simp))
    have GZ := Lib.hid (fun Z (hZ : Below V.heap.size V Z) => (L.getZ (v := .agg #[.bool (ng a), .slice A (zl a) c]) (x := a) (by simp)).mono hZ)
    have LL := Lib.hid L
    have D0 : Dq V V [] [] [(.agg #[.bool (ng tn), .slice A3 (zl tn) c3, .slice B3 (len 1) d3], tn, 1), (.agg #[.bool (ng fn), .slice A4 (zl fn) c4, .slice B4 (len 1) d4], fn, 1)] [] := ⟨((Lq.mk0 V).q GF.out).q GT.out, List.nodup_nil, fun p hp => by cases hp⟩
    clear L GT GF
    have D := D0.drew
    obtain ⟨M, hM⟩ : ∃ M, V.heap.size = M := ⟨_, rfl⟩
    have hz0 : M ≤ V.heap.size := by omega
    have hmx : g < M := by omega
    have hmy : ga < M := by omega
    have hmz : gb < M := by omega
    have hmd : V.drew.heap.size = M := hM
    have hfd : ∀ (x : Bool) (E F : Option Addr) (n1 n2 n3 n4 : Nat) (W : World), (Instr.field 26 (.agg #[.bool x, .slice E n1 n2, .slice F n3 n4]) 1).run Tryz.prog W = .ok (.slice F n3 n4) W := fun _ _ _ _ _ _ _ _ => by kernel_rfl
    go_cut [13, 14] from 46 to 57 (fun s13 s14 wx => Made1Q V yn yd s13 wx ∧ s14 = .int .i64 0)
    case first =>
      go_region_held3 (fun w' => w'.cell? ⟨g, 0, none⟩ = some (.bool (ng a)) ∧ w'.cell? ⟨g, 1, none⟩ = some (.slice A (zl a) c) ∧ w'.cell? ⟨ga, 0, none⟩ = some (.bool (ng tn)) ∧ w'.cell? ⟨ga, 1, none⟩ = some (.slice A3 (zl tn) c3) ∧ w'.cell? ⟨ga, 2, none⟩ = some (.slice B3 (len 1) d3) ∧ w'.cell? ⟨gb, 0, none⟩ = some (.bool (ng fn)) ∧ w'.cell? ⟨gb, 1, none⟩ = some (.slice A4 (zl fn) c4) ∧ w'.cell? ⟨gb, 2, none⟩ = some (.slice B4 (len 1) d4)) (((try dsimp only); refine ⟨?_, ?_, ?_, ?_, ?_, ?_, ?_, ?_⟩ <;> (repeat (first | (with_reducible exact Q0.out _ D.lq.below) | (with_reducible exact Q0.out _ D0.lq.below) | (with_reducible exact Q1.out _ D.lq.below) | (with_reducible exact Q1.out _ D0.lq.below) | (with_reducible exact Q2.out _ D.lq.below) | (with_reducible exact Q2.out _ D0.lq.below) | (with_reducible exact Q3.out _ D.lq.below) | (with_reducible exact Q3.out _ D0.lq.below) | (with_reducible exact Q4.out _ D.lq.below) | (with_reducible exact Q4.out _ D0.lq.below) | (with_reducible exact Q5.out _ D.lq.below) | (with_reducible exact Q5.out _ D0.lq.below) | (with_reducible exact Q6.out _ D.lq.below) | (with_reducible exact Q6.out _ D0.lq.below) | (with_reducible exact Q7.out _ D.lq.below) | (with_reducible exact Q7.out _ D0.lq.below) | (with_reducible refine c_alloc _ ?_) | (with_reducible refine c_drew ?_) | (with_reducible refine c_set ?_ (by assumption) ?_) | omega)))) (first | (go_at_call 15; (with_reducible refine (O1.out _).mono ?_); rintro e wh ⟨vh, rfl, iq, be⟩; obtain ⟨A7, c7, B7, d7, rfl, _, _, in7⟩ := iq.form; (first | (replace D := (D.step be).n in7) | (replace D := ((D.boxM hmd false none none 0 0 0 0).step be).n in7) | (replace D := ((D.box false none none 0 0 0 0).step be).n in7)); replace D := D.q (isP_of (GZ.out _ D.lq.below) (D.getN (List.mem_cons_self ..))); have hz := be.size; (try simp at hz); (try (have x00 := D.lq.b0.c30; have x01 := D.lq.b0.c31; have x02 := D.lq.b0.c32; have y00 := D.lq.b0.fr 0; have y01 := D.lq.b0.fr 1; have y02 := D.lq.b0.fr 2)); (try obtain ⟨na, nb, nc, nd, nl⟩ := D.n0)) | (go_at_call 19; (with_reducible refine (MM.out _ _ _ ?_ ?_).mono ?_); (· (first | (with_reducible refine D.getQ ?_; (repeat (first | (with_reducible exact List.mem_cons_self) | apply List.mem_cons_of_mem))) | (with_reducible refine (D.box false none none 0 0 0 0).getQ ?_; (repeat (first | (with_reducible exact List.mem_cons_self) | apply List.mem_cons_of_mem))) | (with_reducible refine (D0.box false none none 0 0 0 0).drew.getQ ?_; (repeat (first | (with_reducible exact List.mem_cons_self) | apply List.mem_cons_of_mem))))); (· (first | (with_reducible refine D.getQ ?_; (repeat (first | (with_reducible exact List.mem_cons_self) | apply List.mem_cons_of_mem))) | (with_reducible refine (D.box false none none 0 0 0 0).getQ ?_; (repeat (first | (with_reducible exact List.mem_cons_self) | apply List.mem_cons_of_mem))) | (with_reducible refine (D0.box false none none 0 0 0 0).drew.getQ ?_; (repeat (first | (with_reducible exact List.mem_cons_self) | apply List.mem_cons_of_mem))))); rintro e wh ⟨vh, rfl, iq, be⟩; (first | (replace D := (D.step be).q iq) | (replace D := ((D.boxM hmd false none none 0 0 0 0).step be).q iq) | (replace D := ((D.box false none none 0 0 0 0).step be).q iq)); have hz := be.size; (try simp at hz); (try (have x00 := D.lq.b0.c30; have x01 := D.lq.b0.c31; have x02 := D.lq.b0.c32; have y00 := D.lq.b0.fr 0; have y01 := D.lq.b0.fr 1; have y02 := D.lq.b0.fr 2)); (try obtain ⟨na, nb, nc, nd, nl⟩ := D.n0)) | (go_at_call 18; (with_reducible refine (DV.out _ _ _ ?_ ?_).mono ?_); (· (first | (with_reducible refine D.getQ ?_; (repeat (first | (with_reducible exact List.mem_cons_self) | apply List.mem_cons_of_mem))) | (with_reducible refine (D.box false none none 0 0 0 0).getQ ?_; (repeat (first | (with_reducible exact List.mem_cons_self) | apply List.mem_cons_of_mem))) | (with_reducible refine (D0.box false none none 0 0 0 0).drew.getQ ?_; (repeat (first | (with_reducible exact List.mem_cons_self) | apply List.mem_cons_of_mem))))); (· (first | (with_reducible refine D.getQ ?_; (repeat (first | (with_reducible exact List.mem_cons_self) | apply List.mem_cons_of_mem))) | (with_reducible refine (D.box false none none 0 0 0 0).getQ ?_; (repeat (first | (with_reducible exact List.mem_cons_self) | apply List.mem_cons_of_mem))) | (with_reducible refine (D0.box false none none 0 0 0 0).drew.getQ ?_; (repeat (first | (with_reducible exact List.mem_cons_self) | apply List.mem_cons_of_mem))))); rintro e wh ⟨vh, rfl, iq, be⟩; (first | (replace D := (D.step be).q iq) | (replace D := ((D.boxM hmd false none none 0 0 0 0).step be).q iq) | (replace D := ((D.box false none none 0 0 0 0).step be).q iq)); have hz := be.size; (try simp at hz); obtain ⟨A9, c9, B9, d9, rfl, _, _, _⟩ := iq.form; (try (have x00 := D.lq.b0.c30; have x01 := D.lq.b0.c31; have x02 := D.lq.b0.c32; have y00 := D.lq.b0.fr 0; have y01 := D.lq.b0.fr 1; have y02 := D.lq.b0.fr 2)); (try obtain ⟨na, nb, nc, nd, nl⟩ := D.n0)))
      all_goals
        go_wp2_with fail
        go_meet
        refine ⟨?_, rfl⟩
        first
        | ((with_reducible refine made1q_a D ?_) <;> (repeat (first | (with_reducible exact List.mem_cons_self) | apply List.mem_cons_of_mem)))
        | ((with_reducible refine made1q_b D ?_) <;> (repeat (first | (with_reducible exact List.mem_cons_self) | apply List.mem_cons_of_mem)))
    case rest =>
      obtain ⟨⟨g5, A5, c5, B5, d5, rfl, hg5, bw, hbx, hqq⟩, rfl⟩ := hcut
      have L := ((LL.out.step bw).q hqq).b hbx
      clear D D0 hfd hmd hz0 hmx hmy hmz Q0 Q1 Q2 Q3 Q4 Q5 Q6 Q7 LL bw hbx hqq hg5 hM hgm0 O1 MM DV GZ
      generalize wc = wd at *
      have c00 := L.b0.c30
      have c01 := L.b0.c31
      have c02 := L.b0.c32
      have c10 := L.tl.b0.c30
      have c11 := L.tl.b0.c31
      have c12 := L.tl.b0.c32
      have c20 := L.tl.tl.b0.c30
      have c21 := L.tl.tl.b0.c31
      have c22 := L.tl.tl.b0.c32
      have c30 := L.tl.tl.tl.b0.c30
      have c31 := L.tl.tl.tl.b0.c31
      have c32 := L.tl.tl.tl.b0.c32
      have c40 := L.tl.tl.tl.tl.b0.c30
      have c41 := L.tl.tl.tl.tl.b0.c31
      have c42 := L.tl.tl.tl.tl.b0.c32
      go_wp2_with fail
      clear c00 c01 c02 c10 c11 c12 c20 c21 c22 c30 c31 c32 c40 c41 c42
      obtain ⟨gs, hgs⟩ : ∃ gs, wd.heap.size = gs := ⟨_, rfl⟩
      obtain ⟨U, hU⟩ : ∃ U, wd.alloc (.cells #[.bool (ng a), .slice A (zl a) c, .slice B (len d) i, .bool (ng yn), .slice A5 (zl yn) c5, .slice B5 (len yd) d5] 26) = U := ⟨_, rfl⟩
      have hrow : U.heap[gs]? = some (.cells #[.bool (ng a), .slice A (zl a) c, .slice B (len d) i, .bool (ng yn), .slice A5 (zl yn) c5, .slice B5 (len yd) d5] 26 (0, 0)) := by rw [← hU, ← hgs]; exact heap_alloc_new wd _
      have hgl : gs < U.heap.size := by rw [← hU, ← hgs]; simp
      replace L := L.step ((Below.refl wd.heap.size wd).alloc (Nat.le_refl _) (.cells #[.bool (ng a), .slice A (zl a) c, .slice B (len d) i, .bool (ng yn), .slice A5 (zl yn) c5, .slice B5 (len yd) d5] 26))
      rw [hU] at L ⊢
      rw [hgs]
      have HB0 := Lib.hid L.below
      have HRW := Lib.hid (fun (wr : World) (hW : Below U.heap.size U wr) => (show wr.heap[gs]? = some (.cells #[.bool (ng a), .slice A (zl a) c, .slice B (len d) i, .bool (ng yn), .slice A5 (zl yn) c5, .slice B5 (len yd) d5] 26 (0, 0)) from by rw [hW.block gs hgl]; exact hrow))
      have GX := Lib.hid (fun (wr : World) (hW : Below U.heap.size U wr) => (L.getQ (v := .agg #[.bool (ng a), .slice A (zl a) c, .slice B (len d) i]) (a := a) (d := d) (by simp)).mono hW)
      have GY := Lib.hid (fun (wr : World) (hW : Below U.heap.size U wr) => (L.getQ (v := .agg #[.bool (ng yn), .slice A5 (zl yn) c5, .slice B5 (len yd) d5]) (a := yn) (d := yd) (by simp)).mono hW)
      have HTB := Lib.hid (fun (wr : World) (hW : Below U.heap.size U wr) => (hT.mono L.below).mono hW)
      have hwU := L.below.size
      clear hU hrow hgl hgs L hT
      go_loopw [62] (fun i wr => ∃ t : Nat, i = .int .i64 (t : Int) ∧ t ≤ 2 ∧ Below U.heap.size U wr) (fun i _ => 2 - (intOf i).toNat)
      case atStart => exact ⟨0, rfl, by omega, Below.refl _ _⟩
      case round =>
        obtain ⟨t, rfl, ht, hbe⟩ := hrel
        have hbs := hbe.size
        have hr := HRW.out wr hbe
        have hTw := HTB.out wr hbe
        rcases (show t = 0 ∨ t = 1 ∨ t = 2 by omega) with rfl | rfl | rfl
        · have L := (Lq.mk0 wr).q (GX.out wr hbe)
          have x0 := cell_of_row wr gs 0 _ _ _ hr
          have x1 := cell_of_row wr gs 1 _ _ _ hr
          have x2 := cell_of_row wr gs 2 _ _ _ hr
          simp only [List.getElem?_toArray, List.getElem?_cons_zero, List.getElem?_cons_succ] at x0 x1 x2
          have hz := HX.out
          replace L := L.varQ wr.heap.size rfl (ng a) A B (zl a) c (len d) i
          have k0 := L.b0.c30
          have k1 := L.b0.c31
          have k2 := L.b0.c32
          go_wp2_with fail
          clear x0 x1 x2
          obtain ⟨gz, hgz⟩ : ∃ gz, wr.heap.size = gz := ⟨_, rfl⟩
          have hlz := L.b0.lt
          rw [hgz] at L k0 k1 k2 hlz ⊢
          clear hgz hr
          by_cases hdec : 0 ≤ a ∧ ∃ u f, d = 2 ^ u * 5 ^ f
          · obtain ⟨hn0, u, f, hdu⟩ := hdec
            obtain ⟨hm, hlen⟩ := small_dec hz.1 hz.2.1 hdu
            obtain ⟨q1, q2, q3⟩ := back_pt hn0 hz.2.2.2 hdu hlen
            have D1 := Lib.hid (fun v W k1 hT => pdec_yes a d u f v W k1 (Nat.le_trans hz.1 (by omega)) (Nat.le_trans hz.2.1 (by omega)) hn0 hT hdu)
            have D2 := Lib.hid (fun v W k1 => rdec_yes a d u f v W k1 (Nat.le_trans hz.1 (by omega)) (Nat.le_trans hz.2.1 (by omega)) hn0 hdu (by omega))
            have p1 := fun W => pparse_any (pt (dd ((a).natAbs * (10 ^ max u f / (2 ^ u * 5 ^ f)))) (max u f)) W (pt_byt (dd_byt _)) (by omega)
            rw [q1, q2, q3] at p1
            have P1 := Lib.hid p1
            have S1 := Lib.hid (fun v u W k1 k2 => same7_yes a d v u W k1 k2)
            clear p1 q1 q2 q3 hlen hm hdu hn0
            generalize pt (dd ((a).natAbs * (10 ^ max u f / (2 ^ u * 5 ^ f)))) (max u f) = TX at *
            have e1 : ((str TX).toList == (str TX).toList) = true := by simp
            have e2 : ((str TX).toList != (str TX).toList) = false := by simp
            refine (D1.out _ _ (L.getQ (by simp)) (hTw.mono L.below)).mono ?_
            rintro e w41 ⟨rfl, be⟩
            clear k0 k1 k2
            replace L := L.step be
            have k0 := L.b0.c30
            have k1 := L.b0.c31
            have k2 := L.b0.c32
            go_wp2_with fail
            refine (D2.out _ _ (L.getQ (by simp))).mono ?_
            rintro e w42 ⟨rfl, be⟩
            clear k0 k1 k2
            replace L := L.step be
            go_wp2_with fail
            refine (P1.out _).mono ?_
            clear be
            rintro e w43 ⟨v, rfl, iq, be⟩
            clear hz hTw e1 e2 hlz D1 D2 P1
            replace L := (L.step be).q iq
            obtain ⟨A8, c8, B8, d8, rfl, _, _, _⟩ := iq.form
            clear iq be
            replace L := L.varQ w43.heap.size rfl (ng a) A8 B8 (zl a) c8 (len d) d8
            have k0 := L.b0.c30
            have k1 := L.b0.c31
            have k2 := L.b0.c32
            have j0 := L.tl.b0.c30
            have j1 := L.tl.b0.c31
            have j2 := L.tl.b0.c32
            go_wp2_with fail
            refine (S1.out _ _ _ (L.getQ (by simp)) (L.getQ (by simp))).mono ?_
            rintro e w44 ⟨rfl, be⟩
            replace L := L.step be
            clear k0 k1 k2 j0 j1 j2
            go_wp2_with fail
            go_roundw
            case rel => exact ⟨1, by go_num, by omega, hbe.trans (L.below.mono hbs)⟩
            case measure => simp [intOf]
          · have hno : a < 0 ∨ ∀ u f, d ≠ 2 ^ u * 5 ^ f := by
              by_cases h : 0 ≤ a
              · exact .inr fun u f e => hdec ⟨h, u, f, e⟩
              · exact .inl (by omega)
            have D1 := Lib.hid (fun v W k1 hT => pdec_no a d v W k1 (Nat.le_trans hz.1 (by omega)) (Nat.le_trans hz.2.1 (by omega)) hz.2.2.1 hT hno)
            have D2 := Lib.hid (fun v W k1 => rdec_no a d v W k1 (Nat.le_trans hz.1 (by omega)) (Nat.le_trans hz.2.1 (by omega)) hz.2.2.1 hno)
            clear hno hdec
            have e1 : ((str []).toList == (str []).toList) = true := by simp
            have e2 : ((str []).toList != (str []).toList) = false := by simp
            refine (D1.out _ _ (L.getQ (by simp)) (hTw.mono L.below)).mono ?_
            rintro e w41 ⟨rfl, be⟩
            clear k0 k1 k2
            replace L := L.step be
            have k0 := L.b0.c30
            have k1 := L.b0.c31
            have k2 := L.b0.c32
            go_wp2_with fail
            refine (D2.out _ _ (L.getQ (by simp))).mono ?_
            rintro e w42 ⟨rfl, be⟩
            clear k0 k1 k2
            replace L := L.step be
            go_wp2_with fail
            go_roundw
            case rel => exact ⟨1, by go_num, by omega, hbe.trans (L.below.mono hbs)⟩
            case measure => simp [intOf]
        · have L := (Lq.mk0 wr).q (GY.out wr hbe)
          have x0 := cell_of_row wr gs 3 _ _ _ hr
          have x1 := cell_of_row wr gs 4 _ _ _ hr
          have x2 := cell_of_row wr gs 5 _ _ _ hr
          simp only [List.getElem?_toArray, List.getElem?_cons_zero, List.getElem?_cons_succ] at x0 x1 x2
          have hz := HY.out
          replace L := L.varQ wr.heap.size rfl (ng yn) A5 B5 (zl yn) c5 (len yd) d5
          have k0 := L.b0.c30
          have k1 := L.b0.c31
          have k2 := L.b0.c32
          go_wp2_with fail
          clear x0 x1 x2
          obtain ⟨gz, hgz⟩ : ∃ gz, wr.heap.size = gz := ⟨_, rfl⟩
          have hlz := L.b0.lt
          rw [hgz] at L k0 k1 k2 hlz ⊢
          clear hgz hr
          by_cases hdec : 0 ≤ yn ∧ ∃ u f, yd = 2 ^ u * 5 ^ f
          · obtain ⟨hn0, u, f, hdu⟩ := hdec
            obtain ⟨hm, hlen⟩ := small_dec hz.1 hz.2.1 hdu
            obtain ⟨q1, q2, q3⟩ := back_pt hn0 hz.2.2.2 hdu hlen
            have D1 := Lib.hid (fun v W k1 hT => pdec_yes yn yd u f v W k1 (Nat.le_trans hz.1 (by omega)) (Nat.le_trans hz.2.1 (by omega)) hn0 hT hdu)
            have D2 := Lib.hid (fun v W k1 => rdec_yes yn yd u f v W k1 (Nat.le_trans hz.1 (by omega)) (Nat.le_trans hz.2.1 (by omega)) hn0 hdu (by omega))
            have p1 := fun W => pparse_any (pt (dd ((yn).natAbs * (10 ^ max u f / (2 ^ u * 5 ^ f)))) (max u f)) W (pt_byt (dd_byt _)) (by omega)
            rw [q1, q2, q3] at p1
            have P1 := Lib.hid p1
            have S1 := Lib.hid (fun v u W k1 k2 => same7_yes yn yd v u W k1 k2)
            clear p1 q1 q2 q3 hlen hm hdu hn0
            generalize pt (dd ((yn).natAbs * (10 ^ max u f / (2 ^ u * 5 ^ f)))) (max u f) = TX at *
            have e1 : ((str TX).toList == (str TX).toList) = true := by simp
            have e2 : ((str TX).toList != (str TX).toList) = false := by simp
            refine (D1.out _ _ (L.getQ (by simp)) (hTw.mono L.below)).mono ?_
            rintro e w41 ⟨rfl, be⟩
            clear k0 k1 k2
            replace L := L.step be
            have k0 := L.b0.c30
            have k1 := L.b0.c31
            have k2 := L.b0.c32
            go_wp2_with fail
            refine (D2.out _ _ (L.getQ (by simp))).mono ?_
            rintro e w42 ⟨rfl, be⟩
            clear k0 k1 k2
            replace L := L.step be
            go_wp2_with fail
            refine (P1.out _).mono ?_
            clear be
            rintro e w43 ⟨v, rfl, iq, be⟩
            clear hz hTw e1 e2 hlz D1 D2 P1
            replace L := (L.step be).q iq
            obtain ⟨A8, c8, B8, d8, rfl, _, _, _⟩ := iq.form
            clear iq be
            replace L := L.varQ w43.heap.size rfl (ng yn) A8 B8 (zl yn) c8 (len yd) d8
            have k0 := L.b0.c30
            have k1 := L.b0.c31
            have k2 := L.b0.c32
            have j0 := L.tl.b0.c30
            have j1 := L.tl.b0.c31
            have j2 := L.tl.b0.c32
            go_wp2_with fail
            refine (S1.out _ _ _ (L.getQ (by simp)) (L.getQ (by simp))).mono ?_
            rintro e w44 ⟨rfl, be⟩
            replace L := L.step be
            clear k0 k1 k2 j0 j1 j2
            go_wp2_with fail
            go_roundw
            case rel => exact ⟨2, by go_num, by omega, hbe.trans (L.below.mono hbs)⟩
            case measure => simp [intOf]
          · have hno : yn < 0 ∨ ∀ u f, yd ≠ 2 ^ u * 5 ^ f := by
              by_cases h : 0 ≤ yn
              · exact .inr fun u f e => hdec ⟨h, u, f, e⟩
              · exact .inl (by omega)
            have D1 := Lib.hid (fun v W k1 hT => pdec_no yn yd v W k1 (Nat.le_trans hz.1 (by omega)) (Nat.le_trans hz.2.1 (by omega)) hz.2.2.1 hT hno)
            have D2 := Lib.hid (fun v W k1 => rdec_no yn yd v W k1 (Nat.le_trans hz.1 (by omega)) (Nat.le_trans hz.2.1 (by omega)) hz.2.2.1 hno)
            clear hno hdec
            have e1 : ((str []).toList == (str []).toList) = true := by simp
            have e2 : ((str []).toList != (str []).toList) = false := by simp
            refine (D1.out _ _ (L.getQ (by simp)) (hTw.mono L.below)).mono ?_
            rintro e w41 ⟨rfl, be⟩
            clear k0 k1 k2
            replace L := L.step be
            have k0 := L.b0.c30
            have k1 := L.b0.c31
            have k2 := L.b0.c32
            go_wp2_with fail
            refine (D2.out _ _ (L.getQ (by simp))).mono ?_
            rintro e w42 ⟨rfl, be⟩
            clear k0 k1 k2
            replace L := L.step be
            go_wp2_with fail
            go_roundw
            case rel => exact ⟨2, by go_num, by omega, hbe.trans (L.below.mono hbs)⟩
            case measure => simp [intOf]
        · go_wp2_with fail
          go_ret
          exact ⟨rfl, HB0.out.trans (hbe.mono hwU)⟩

end Go.Proofs.YtbndgggjfjdfbabGreatDoor
