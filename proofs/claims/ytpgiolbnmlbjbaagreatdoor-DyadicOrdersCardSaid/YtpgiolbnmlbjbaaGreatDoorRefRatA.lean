/- The reference's Lowest, Make, of, den, Of, Sign. -/
import Derived.Test.YtpgiolbnmlbjbaaGreatDoorRatA
import Derived.Test.YtpgiolbnmlbjbaaGreatDoorBaseS
import Derived.Test.YtpgiolbnmlbjbaaGreatDoorBaseJ
import Derived.Deep.RegionHeld3
import Derived.Deep.DrawnRows
namespace Go.Proofs.YtpgiolbnmlbjbaaGreatDoor
open Go.RowKit
set_option linter.unusedVariables false
set_option linter.unusedSimpArgs false
set_option maxRecDepth 100000
attribute [local go_sem ↓] Go.wp_at_zero Go.wp_at_succ

/-- Two naturals and true. -/
def Ret2N (w : World) (x y : Nat) (e : Ending) (w' : World) : Prop := ∃ v u, e = .returned (.tuple #[v, u, .bool true]) ∧ IsN w' v x ∧ IsN w' u y ∧ Below w.heap.size w w'
theorem rlowest_zero (x : Nat) (va vb : Value) (w : World) (hb : IsN w vb 0) :
    Calls Tryz.prog 116 #[va, vb] w (RetNo w) := by
  obtain ⟨B, d, rfl⟩ := hb.form
  rw [len_zero]
  go_enter Tryz.func116, Tryz.ntmps116
  go_wp2_with fail
  go_ret3
  exact ⟨rfl, Below.refl _ _⟩
theorem len_div_le (x g : Nat) : len (x / g) ≤ len x := len_mono (Nat.div_le_self _ _)
theorem rlowest_any (x y : Nat) (va vb : Value) (w : World) (ha : IsN w va x) (hb : IsN w vb y) (hx : len x ≤ 100000000) (hy : len y ≤ 100000000) (h0 : 0 < y) :
    Calls Tryz.prog 116 #[va, vb] w (Ret2N w (x / Nat.gcd x y) (y / Nat.gcd x y)) := by
  have hg0 : 0 < Nat.gcd x y := Nat.gcd_pos_of_pos_right x h0
  have hgl : len (Nat.gcd x y) ≤ 100000000 := Nat.le_trans (len_mono (Nat.gcd_le_right x h0)) hy
  have HG := Lib.hid (fun W (hW : Below w.heap.size w W) => rgcd_any x y va vb W (ha.mono hW) (hb.mono hW) (by omega) (by omega))
  obtain ⟨g, hg⟩ : ∃ g, Nat.gcd x y = g := ⟨_, rfl⟩
  rw [hg] at hg0 hgl HG ⊢
  have H1 := Lib.hid (fun W vg (hW : Below w.heap.size w W) h => rdiv_any x g va vg W (ha.mono hW) h (by omega) (by omega) hg0)
  have H2 := Lib.hid (fun W vg (hW : Below w.heap.size w W) h => rdiv_any y g vb vg W (hb.mono hW) h (by omega) (by omega) hg0)
  have hlp := len_pos h0
  obtain ⟨k, hk⟩ : ∃ k, len y = k + 1 := ⟨len y - 1, by omega⟩
  obtain ⟨A, c, rfl⟩ := ha.form
  obtain ⟨B, d, rfl⟩ := hb.form
  rw [hk] at HG H2 ⊢
  have hkz : ((k : Int) + 1 == 0) = false := by simp; omega
  clear ha hb hg hlp hk h0 hx hy
  go_enter Tryz.func116, Tryz.ntmps116
  go_wp2_with fail
  refine (HG.out _ (Below.refl _ _)).mono ?_
  rintro e w1 ⟨vg, rfl, hn, b1⟩
  go_wp2_with fail
  refine (H1.out _ _ b1 hn).mono ?_
  rintro e w2 ⟨v1, rfl, o1⟩
  have b2 := b1.trans (o1.below.mono b1.size)
  go_wp2_with fail
  refine (H2.out _ _ b2 (hn.mono o1.below)).mono ?_
  rintro e w3 ⟨v2, rfl, o2⟩
  go_wp2_with fail
  go_ret3
  exact ⟨_, _, rfl, o1.isN.mono o2.below, o2.isN, b2.trans (o2.below.mono b2.size)⟩
set_option maxHeartbeats 1000000 in
theorem rmake_zero (n : Int) (vn vm : Value) (w : World) (hn : IsZ w vn n) (hm : IsZ w vm 0) :
    Calls Tryz.prog 88 #[vn, vm] w (RetPE w 0 0 2) := by
  obtain ⟨A, c, rfl, in1⟩ := hn.form
  obtain ⟨B, d, rfl, im1⟩ := hm.form
  have HL := Lib.hid (fun W va h => rlowest_zero n.natAbs va (.slice B (zl 0) d) W h)
  have L0 := ((Lq.mk0 w).n in1).n im1
  clear hn hm in1 im1
  go_enter Tryz.func88, Tryz.ntmps88
  go_wp2_with fail
  have L := (((L0.varZ (w.heap.size) (by simp) (ng n) A (zl n) c).varZ (w.heap.size + 1) (by simp) (ng 0) B (zl 0) d).varQ (w.heap.size + 2) (by simp) false none none 0 0 0 0)
  have c00 := L.b0.c30
  have f00 := L.b0.fr 0
  have c01 := L.b0.c31
  have f01 := L.b0.fr 1
  have c02 := L.b0.c32
  have f02 := L.b0.fr 2
  have c10 := L.tl.b0.c20
  have c11 := L.tl.b0.c21
  have c20 := L.tl.tl.b0.c20
  have c21 := L.tl.tl.b0.c21
  refine (HL.out _ _ (L.getN (by simp))).mono ?_
  rintro e w1 ⟨rfl, be⟩
  clear c00 f00 c01 f01 c02 f02 c10 c11 c20 c21
  replace L := L.step be
  clear be
  have c00 := L.b0.c30
  have f00 := L.b0.fr 0
  have c01 := L.b0.c31
  have f01 := L.b0.fr 1
  have c02 := L.b0.c32
  have f02 := L.b0.fr 2
  have c10 := L.tl.b0.c20
  have c11 := L.tl.b0.c21
  have c20 := L.tl.tl.b0.c20
  have c21 := L.tl.tl.b0.c21
  go_wp2_with fail
  have LP := L.putQ (by omega) (by simp) false none none 0 0 0 0
  have d0 := LP.b0.c30
  have d1 := LP.b0.c31
  have d2 := LP.b0.c32
  unfold put3 at d0 d1 d2
  exact bodyPost_ret (v := .tuple #[.agg #[.bool false, .slice none 0 0, .slice none 0 0], .int .i64 2]) (by simp [results, Tryz.results88, go_sem, d0, d1, d2]) rfl ⟨_, rfl, isP_zero _, LP.below⟩
set_option maxHeartbeats 1000000 in
theorem rmake_any (n m : Int) (vn vm : Value) (w : World) (hn : IsZ w vn n) (hm : IsZ w vm m) (ln : zl n ≤ 100000000) (lm : zl m ≤ 100000000) (hm0 : m ≠ 0) :
    Calls Tryz.prog 88 #[vn, vm] w (RetPE w (Rat.divInt n m).num (Rat.divInt n m).den 0) := by
  obtain ⟨A, c, rfl, in1⟩ := hn.form
  obtain ⟨B, d, rfl, im1⟩ := hm.form
  obtain ⟨e1, e2⟩ := divInt_pair n m hm0
  rw [e1, e2]
  have HL := Lib.hid (fun W h1 h2 => rlowest_any n.natAbs m.natAbs (.slice A (zl n) c) (.slice B (zl m) d) W h1 h2 ln lm (by omega))
  have hlg := len_div_le n.natAbs (Nat.gcd n.natAbs m.natAbs)
  have hln : len n.natAbs ≤ 100000000 := ln
  obtain ⟨x, hx⟩ : ∃ x, n.natAbs / Nat.gcd n.natAbs m.natAbs = x := ⟨_, rfl⟩
  obtain ⟨y, hy⟩ : ∃ y, m.natAbs / Nat.gcd n.natAbs m.natAbs = y := ⟨_, rfl⟩
  rw [hx] at HL hlg ⊢
  rw [hy] at HL ⊢
  obtain ⟨sb, hsb⟩ : ∃ sb, (ng n != ng m) = sb := ⟨_, rfl⟩
  have hsb2 : (!(ng n == ng m)) = sb := hsb
  rw [hsb]
  have L0 := ((Lq.mk0 w).n in1).n im1
  clear hn hm in1 im1 e1 e2 hx hy ln lm hm0
  go_enter Tryz.func88, Tryz.ntmps88
  go_wp2_with fail
  have L := (((L0.varZ (w.heap.size) (by simp) (ng n) A (zl n) c).varZ (w.heap.size + 1) (by simp) (ng m) B (zl m) d).varQ (w.heap.size + 2) (by simp) false none none 0 0 0 0)
  have c00 := L.b0.c30
  have f00 := L.b0.fr 0
  have c01 := L.b0.c31
  have f01 := L.b0.fr 1
  have c02 := L.b0.c32
  have f02 := L.b0.fr 2
  have c10 := L.tl.b0.c20
  have c11 := L.tl.b0.c21
  have c20 := L.tl.tl.b0.c20
  have c21 := L.tl.tl.b0.c21
  refine (HL.out _ (L.getN (by simp)) (L.getN (by simp))).mono ?_
  rintro e w1 ⟨v1, v2, rfl, h1, h2, be⟩
  clear c00 f00 c01 f01 c02 f02 c10 c11 c20 c21
  replace L := ((L.step be).n h1).n h2
  obtain ⟨A2, c2, rfl⟩ := h2.form
  clear be h1 h2
  have c00 := L.b0.c30
  have f00 := L.b0.fr 0
  have c01 := L.b0.c31
  have f01 := L.b0.fr 1
  have c02 := L.b0.c32
  have f02 := L.b0.fr 2
  have c10 := L.tl.b0.c20
  have c11 := L.tl.b0.c21
  have c20 := L.tl.tl.b0.c20
  have c21 := L.tl.tl.b0.c21
  have HS := Lib.hid (fun b W h => rznatN_any b x v1 W h (by omega))
  go_wp2_with fail
  refine (HS.out _ _ (L.getN (by simp))).mono ?_
  rintro e w2 ⟨v3, rfl, iz, be⟩
  clear c00 f00 c01 f01 c02 f02 c10 c11 c20 c21
  replace L := (L.step be).z iz
  obtain ⟨A3, c3, rfl, _⟩ := iz.form
  clear be iz
  have c00 := L.b0.c30
  have f00 := L.b0.fr 0
  have c01 := L.b0.c31
  have f01 := L.b0.fr 1
  have c02 := L.b0.c32
  have f02 := L.b0.fr 2
  have c10 := L.tl.b0.c20
  have c11 := L.tl.b0.c21
  have c20 := L.tl.tl.b0.c20
  have c21 := L.tl.tl.b0.c21
  go_wp2_with fail
  have LP := L.putQ (by omega) (by first | (simp; done) | (simp; omega)) (ng (sg sb x)) A3 A2 (zl (sg sb x)) c3 (len (y)) c2
  have k0 := LP.b0.c30
  have k1 := LP.b0.c31
  have k2 := LP.b0.c32
  unfold put3 at k0 k1 k2
  exact bodyPost_ret (v := .tuple #[.agg #[.bool (ng (sg sb x)), .slice A3 (zl (sg sb x)) c3, .slice A2 (len (y)) c2], .int .i64 0]) (by simp [results, Tryz.results88, go_sem, k0, k1, k2]) rfl ⟨_, rfl, isP_of LP.hz (LP.getN (by simp)), LP.below⟩
set_option maxHeartbeats 1000000 in
theorem rof7_any (n m : Int) (vn vm : Value) (w : World) (hn : IsZ w vn n) (hm : IsZ w vm m) (ln : zl n ≤ 100000000) (lm : zl m ≤ 100000000) (hm0 : m ≠ 0) :
    Calls Tryz.prog 77 #[vn, vm] w (RetQ w (Rat.divInt n m)) := by
  obtain ⟨A, c, rfl, _⟩ := hn.form
  obtain ⟨B, d, rfl, _⟩ := hm.form
  have HM := Lib.hid (fun W h1 h2 => rmake_any n m (.agg #[.bool (ng n), .slice A (zl n) c]) (.agg #[.bool (ng m), .slice B (zl m) d]) W h1 h2 ln lm hm0)
  unfold RetQ
  generalize (Rat.divInt n m).num = a at *
  generalize (Rat.divInt n m).den = r at *
  have L0 := ((Lq.mk0 w).z hn).z hm
  clear hn hm ln lm hm0
  go_enter Tryz.func77, Tryz.ntmps77
  go_wp2_with fail
  have L := (((L0.varZ (w.heap.size) (by simp) (ng n) A (zl n) c).varZ (w.heap.size + 1) (by simp) (ng m) B (zl m) d).varQ (w.heap.size + 2) (by simp) false none none 0 0 0 0)
  have c00 := L.b0.c30
  have f00 := L.b0.fr 0
  have c01 := L.b0.c31
  have f01 := L.b0.fr 1
  have c02 := L.b0.c32
  have f02 := L.b0.fr 2
  have c10 := L.tl.b0.c20
  have c11 := L.tl.b0.c21
  have c20 := L.tl.tl.b0.c20
  have c21 := L.tl.tl.b0.c21
  refine (HM.out _ (L.getZ (by simp)) (L.getZ (by simp))).mono ?_
  rintro e w1 ⟨v, rfl, iq, be⟩
  clear c00 f00 c01 f01 c02 f02 c10 c11 c20 c21
  replace L := (L.step be).q iq
  obtain ⟨A2, c2, B2, d2, rfl, _, _, _⟩ := iq.form
  clear be iq
  have c00 := L.b0.c30
  have f00 := L.b0.fr 0
  have c01 := L.b0.c31
  have f01 := L.b0.fr 1
  have c02 := L.b0.c32
  have f02 := L.b0.fr 2
  have c10 := L.tl.b0.c20
  have c11 := L.tl.b0.c21
  have c20 := L.tl.tl.b0.c20
  have c21 := L.tl.tl.b0.c21
  have hlt := L.b0.lt
  have LP0 := L.putQ (by omega) (by first | (simp; done) | (simp; omega)) (ng a) A2 B2 (zl a) c2 (len r) d2
  have LP := LP0.varQ _ rfl (ng a) A2 B2 (zl a) c2 (len r) d2
  have k0 := LP.tl.b0.c30
  have k1 := LP.tl.b0.c31
  have k2 := LP.tl.b0.c32
  unfold put3 at k0 k1 k2
  replace L := L.varQ w1.heap.size rfl (ng a) A2 B2 (zl a) c2 (len r) d2
  have y0 := L.b0.c30
  have y1 := L.b0.c31
  have y2 := L.b0.c32
  go_wp2_with fail
  exact bodyPost_ret (v := .agg #[.bool (ng a), .slice A2 (zl a) c2, .slice B2 (len r) d2]) (by simp [results, Tryz.results77, go_sem, k0, k1, k2]) rfl ⟨_, rfl, LP.hq, LP.below⟩

end Go.Proofs.YtpgiolbnmlbjbaaGreatDoor
