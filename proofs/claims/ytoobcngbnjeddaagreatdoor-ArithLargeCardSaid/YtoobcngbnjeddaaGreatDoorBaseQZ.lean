/- Base texts, joined: RefArN, RefArS. -/
import Derived.Test.YtoobcngbnjeddaaGreatDoorBaseXZ
import Derived.Test.YtoobcngbnjeddaaGreatDoorBaseF
import Derived.Test.YtoobcngbnjeddaaGreatDoorBaseM
import Derived.Deep.RegionHeld3
import Derived.Deep.DrawnRows
import Derived.Deep.Cut
import Derived.Deep.CutRange
import Derived.Test.YtoobcngbnjeddaaGreatDoorBaseV
/- The reference's Neg, Add, Sub. -/
namespace Go.Proofs.YtoobcngbnjeddaaGreatDoor
open Go.RowKit
set_option linter.unusedVariables false
set_option linter.unusedSimpArgs false
set_option maxRecDepth 100000
attribute [local go_sem ↓] Go.wp_at_zero Go.wp_at_succ

theorem Lq.tl9 {w0 w : World} {b : Nat × TypeId × Array Value} {ns : List (Value × Nat)} {zs : List (Value × Int)} {qs : List (Value × Int × Nat)} {bs : List (Nat × TypeId × Array Value)} (h : Lq w0 w ns zs qs (b :: bs)) : Lq w0 w ns zs qs bs := ⟨h.below, h.ns, h.zs, h.qs, fun x hx => h.bs x (List.mem_cons_of_mem _ hx)⟩
theorem plainE2 {a b : Int} {p q c k c' k' : Nat} {A B A' B' : Option Addr} : Plain #[.bool (ng a), .slice A (zl a) c, .slice B (len p) k, .bool (ng b), .slice A' (zl b) c', .slice B' (len q) k'] := plainE _ _ _ _ _ _ _ _ _ _ _ _ _ _

set_option maxHeartbeats 16000000 in
theorem r11neg_any (m e n f k : Int) (vx : Value) (w : World) (hx : IsI w vx m e n f) (lm : zl m ≤ 25) (ln : zl n ≤ 25) (he : -3000 ≤ e ∧ e ≤ 3000) (hf : -3000 ≤ f ∧ f ≤ 3000) (hd1 : dcm m e n f ≤ 0) (hk1 : -9223372036854775808 ≤ k) (hk2 : k ≤ 9223372036854775807) :
    Calls Tryz.prog 19 #[vx, .int .i64 k] w (RetEn w (-(dq n f)) (-(dq m e)) k) := by
  obtain ⟨A, c, B, d, rfl, hn1, hn2⟩ := hx.form
  have L0 := ((Lq.mk0 w).n hn2).n hn1
  have he0 := fun v W h => rends_any m e n f v W h (by omega) (by omega) (by omega) (by omega)
  have x1 := zl_two m e.toNat
  have x2 := len_two (-e).toNat
  have x3 := two_pos8 (-e).toNat
  have y1 := zl_two n f.toNat
  have y2 := len_two (-f).toNat
  have y3 := two_pos8 (-f).toNat
  have hle := Rat.neg_le_neg ((dcm_le _ _ _ _).1 hd1)
  have qa : dq m e = qOf (m * 2 ^ e.toNat, 2 ^ (-e).toNat) := rfl
  have qb : dq n f = qOf (n * 2 ^ f.toNat, 2 ^ (-f).toNat) := rfl
  rw [qa, qb] at hle ⊢
  obtain ⟨a, ha⟩ : ∃ z, m * 2 ^ e.toNat = z := ⟨_, rfl⟩
  obtain ⟨p, hp⟩ : ∃ z, 2 ^ (-e).toNat = z := ⟨_, rfl⟩
  obtain ⟨b, hb⟩ : ∃ z, n * 2 ^ f.toNat = z := ⟨_, rfl⟩
  obtain ⟨q, hq⟩ : ∃ z, 2 ^ (-f).toNat = z := ⟨_, rfl⟩
  rw [ha, hp, hb, hq] at he0 hle ⊢
  rw [ha] at x1
  rw [hp] at x2 x3
  rw [hb] at y1
  rw [hq] at y2 y3
  clear qa qb ha hp hb hq
  have z1 := zl_neg a
  have z2 := zl_neg b
  have n1 := fun v W h => rneg7_any a p v W h (by omega)
  have n2 := fun v W h => rneg7_any b q v W h (by omega)
  rw [← q_neg, ← q_neg] at hle ⊢
  obtain ⟨a2, ha2⟩ : ∃ z, -a = z := ⟨_, rfl⟩
  obtain ⟨b2, hb2⟩ : ∃ z, -b = z := ⟨_, rfl⟩
  rw [ha2] at n1 z1 hle ⊢
  rw [hb2] at n2 z2 hle ⊢
  have en := fun v W h => rencl_any [(a2, p), (b2, q)] (qOf (b2, q)) (qOf (a2, p)) k v W h (by simp) (by simp) (fun r hr => by
    simp only [List.mem_cons, List.not_mem_nil, or_false] at hr
    rcases hr with rfl | rfl
    · show zl a2 ≤ 800 ∧ len p ≤ 800 ∧ 0 < p
      exact ⟨by omega, by omega, x3⟩
    · show zl b2 ≤ 800 ∧ len q ≤ 800 ∧ 0 < q
      exact ⟨by omega, by omega, y3⟩) (least_2' hle) (most_2' hle) hk1 hk2
  generalize qOf (b2, q) = lo at *
  generalize qOf (a2, p) = hi at *
  have HE := Lib.hid he0
  have N1 := Lib.hid n1
  have N2 := Lib.hid n2
  have EN := Lib.hid en
  clear he0 n1 n2 en ha2 hb2 hle x1 x2 x3 y1 y2 y3 z1 z2 hx hn1 hn2 lm ln he hf hd1 hk1 hk2
  go_enter Tryz.func19, Tryz.ntmps19
  go_wp2_with fail
  have L := ((L0.varI (w.heap.size) (by simp) (ng m) A (zl m) c e (ng n) B (zl n) d f).varI (w.heap.size + 1) (by simp) false none 0 0 0 false none 0 0 0)
  have c00 := L.b0.c60
  have c01 := L.b0.c61
  have c02 := L.b0.c62
  have c03 := L.b0.c63
  have c04 := L.b0.c64
  have c05 := L.b0.c65
  have c10 := L.tl.b0.c60
  have c11 := L.tl.b0.c61
  have c12 := L.tl.b0.c62
  have c13 := L.tl.b0.c63
  have c14 := L.tl.b0.c64
  have c15 := L.tl.b0.c65
  (try go_wp2_with fail)
  refine (HE.out _ _ (isI_n (m := m) (e := e) (n := n) (f := f) (L.getN (v := .slice A (zl m) c) (x := (m).natAbs) (by simp)) (L.getN (v := .slice B (zl n) d) (x := (n).natAbs) (by simp)))).mono ?_
  rintro e w1 ⟨vv, rfl, ie, be⟩
  clear c00 c01 c02 c03 c04 c05 c10 c11 c12 c13 c14 c15
  obtain ⟨A3, c3, B3, k3, A4, c4, B4, k4, rfl, iq1, iq2⟩ := ie.form
  replace L := ((L.step be).q iq2).q iq1
  clear be ie iq1 iq2
  have hl3 := L.b0.lt
  replace L := L.varE w1.heap.size rfl (ng a) A3 (zl a) c3 B3 (len p) k3 (ng b) A4 (zl b) c4 B4 (len q) k4
  have c00 := L.b0.c60
  have c01 := L.b0.c61
  have c02 := L.b0.c62
  have c03 := L.b0.c63
  have c04 := L.b0.c64
  have c05 := L.b0.c65
  have c20 := L.tl.tl.b0.c60
  have c21 := L.tl.tl.b0.c61
  have c22 := L.tl.tl.b0.c62
  have c23 := L.tl.tl.b0.c63
  have c24 := L.tl.tl.b0.c64
  have c25 := L.tl.tl.b0.c65
  go_wp2_with fail
  obtain ⟨gx, hg⟩ : ∃ g, w1.heap.size = g := ⟨_, rfl⟩
  rw [hg] at L hl3 c00 c01 c02 c03 c04 c05 ⊢
  clear hg
  replace L := L.swap.drew
  clear c00 c01 c02 c03 c04 c05 c20 c21 c22 c23 c24 c25
  have c00 := L.b0.c60
  have f00 := L.b0.fr 0
  have c01 := L.b0.c61
  have f01 := L.b0.fr 1
  have c02 := L.b0.c62
  have f02 := L.b0.fr 2
  have c03 := L.b0.c63
  have f03 := L.b0.fr 3
  have c04 := L.b0.c64
  have f04 := L.b0.fr 4
  have c05 := L.b0.c65
  have f05 := L.b0.fr 5
  have c10 := L.tl.b0.c60
  have c11 := L.tl.b0.c61
  have c12 := L.tl.b0.c62
  have c13 := L.tl.b0.c63
  have c14 := L.tl.b0.c64
  have c15 := L.tl.b0.c65
  go_region_held3 (fun w' => w'.cell? ⟨gx, 0, none⟩ = some (.bool (ng a)) ∧ w'.cell? ⟨gx, 1, none⟩ = some (.slice A3 (zl a) c3) ∧ w'.cell? ⟨gx, 2, none⟩ = some (.slice B3 (len p) k3) ∧ w'.cell? ⟨gx, 3, none⟩ = some (.bool (ng b)) ∧ w'.cell? ⟨gx, 4, none⟩ = some (.slice A4 (zl b) c4) ∧ w'.cell? ⟨gx, 5, none⟩ = some (.slice B4 (len q) k4)) (first | (with_reducible exact ⟨L.tl.b0.c60, L.tl.b0.c61, L.tl.b0.c62, L.tl.b0.c63, L.tl.b0.c64, L.tl.b0.c65⟩) | (have LN := L.var _ rfl 45 #[.bool (ng a2), .slice A8 (zl a2) c8, .slice B8 (len p) k8, .bool (ng b2), .slice A9 (zl b2) c9, .slice B9 (len q) k9] plainE2; with_reducible exact ⟨LN.tl.tl.b0.c60, LN.tl.tl.b0.c61, LN.tl.tl.b0.c62, LN.tl.tl.b0.c63, LN.tl.tl.b0.c64, LN.tl.tl.b0.c65⟩) | (have LP := L.putI (by omega) (by first | (simp; done) | (simp; omega)) (ng m9) A5 (zl m9) c5 e9' (ng n9) B5 (zl n9) d5 f9; unfold put6 at LP; with_reducible exact ⟨LP.tl.b0.c60, LP.tl.b0.c61, LP.tl.b0.c62, LP.tl.b0.c63, LP.tl.b0.c64, LP.tl.b0.c65⟩) | exact ⟨L.tl.b0.c60, L.tl.b0.c61, L.tl.b0.c62, L.tl.b0.c63, L.tl.b0.c64, L.tl.b0.c65⟩) (first | (go_at_call 51; (with_reducible refine (N1.out _ _ ?_).mono ?_); (· (refine L.getQ ?_; (repeat (first | (with_reducible exact List.mem_cons_self) | apply List.mem_cons_of_mem)))); rintro e wh ⟨vh, rfl, iq, be⟩; replace L := (L.step be).q iq; obtain ⟨A8, c8, B8, k8, rfl, _, _, _⟩ := iq.form; clear be iq; (try (have x00 := L.b0.c60; have y00 := L.b0.fr 0; have x01 := L.b0.c61; have y01 := L.b0.fr 1; have x02 := L.b0.c62; have y02 := L.b0.fr 2; have x03 := L.b0.c63; have y03 := L.b0.fr 3; have x04 := L.b0.c64; have y04 := L.b0.fr 4; have x05 := L.b0.c65; have y05 := L.b0.fr 5))) | (go_at_call 51; (with_reducible refine (N2.out _ _ ?_).mono ?_); (· (refine L.getQ ?_; (repeat (first | (with_reducible exact List.mem_cons_self) | apply List.mem_cons_of_mem)))); rintro e wh ⟨vh, rfl, iq, be⟩; replace L := (L.step be).q iq; obtain ⟨A9, c9, B9, k9, rfl, _, _, _⟩ := iq.form; clear be iq; (try (have x00 := L.b0.c60; have y00 := L.b0.fr 0; have x01 := L.b0.c61; have y01 := L.b0.fr 1; have x02 := L.b0.c62; have y02 := L.b0.fr 2; have x03 := L.b0.c63; have y03 := L.b0.fr 3; have x04 := L.b0.c64; have y04 := L.b0.fr 4; have x05 := L.b0.c65; have y05 := L.b0.fr 5))) | (go_at_call 49; have LN := L.var _ rfl 45 #[.bool (ng a2), .slice A8 (zl a2) c8, .slice B8 (len p) k8, .bool (ng b2), .slice A9 (zl b2) c9, .slice B9 (len q) k9] plainE2; (with_reducible refine (EN.out _ _ ?_).mono ?_); (· (refine rowR_2 LN.b0 (LN.getQ ?_) (LN.getQ ?_) <;> (repeat (first | (with_reducible exact List.mem_cons_self) | apply List.mem_cons_of_mem)))); rintro e wh hen; obtain ⟨vh, er, m9, e9', n9, f9, rfl, ii, be, hback⟩ := hen.form; obtain ⟨A5, c5, B5, d5, rfl, ia, ib⟩ := ii.form; replace L := ((LN.step be).n ib).n ia; have HBK := Lib.hid hback; clear be ii ia ib hen hback; replace L := L.tl9; (try (have x00 := L.b0.c60; have y00 := L.b0.fr 0; have x01 := L.b0.c61; have y01 := L.b0.fr 1; have x02 := L.b0.c62; have y02 := L.b0.fr 2; have x03 := L.b0.c63; have y03 := L.b0.fr 3; have x04 := L.b0.c64; have y04 := L.b0.fr 4; have x05 := L.b0.c65; have y05 := L.b0.fr 5))))
  clear c00 f00 c01 f01 c02 f02 c03 f03 c04 f04 c05 f05 c10 c11 c12 c13 c14 c15
  go_wp2_with fail
  have LP := L.putI (by omega) (by first | (simp; done) | (simp; omega)) (ng m9) A5 (zl m9) c5 e9' (ng n9) B5 (zl n9) d5 f9
  have k0 := LP.b0.c60
  have k1 := LP.b0.c61
  have k2 := LP.b0.c62
  have k3 := LP.b0.c63
  have k4 := LP.b0.c64
  have k5 := LP.b0.c65
  unfold put6 at k0 k1 k2 k3 k4 k5
  exact bodyPost_ret (v := .tuple #[.agg #[.bool (ng m9), .slice A5 (zl m9) c5, .int .i64 e9', .bool (ng n9), .slice B5 (zl n9) d5, .int .i64 f9], .int .i64 er]) (by simp [results, Tryz.results19, go_sem, k0, k1, k2, k3, k4, k5]) rfl (HBK.out _ _ _ (isI_n (LP.getN (by simp)) (LP.getN (by simp))) LP.below)

end Go.Proofs.YtoobcngbnjeddaaGreatDoor


/- What the reference's Add and Sub lean on. -/
namespace Go.Proofs.YtoobcngbnjeddaaGreatDoor
open Go.RowKit
set_option linter.unusedVariables false
set_option linter.unusedSimpArgs false
set_option maxRecDepth 100000
attribute [local go_sem ↓] Go.wp_at_zero Go.wp_at_succ

theorem qnum (q : Rat) {a : Int} {d : Nat} (h1 : q.num = a) (h2 : q.den = d) : qOf (a, d) = q := by rw [← h1, ← h2]; exact qOf_num q
theorem sum_small {a b : Int} {d e : Nat} (ha : zl a ≤ 120) (hb : zl b ≤ 120) (hd : len d ≤ 120) (he : len e ≤ 120) (hd0 : 0 < d) (he0 : 0 < e) : zl (Rat.divInt (a * (e : Int) + b * (d : Int)) ((d : Int) * (e : Int))).num ≤ 800 ∧ len (Rat.divInt (a * (e : Int) + b * (d : Int)) ((d : Int) * (e : Int))).den ≤ 800 := by
  obtain ⟨e1, e2⟩ := divInt_pair (a * (e : Int) + b * (d : Int)) ((d : Int) * (e : Int)) (Int.mul_ne_zero (by omega) (by omega))
  have h1 := zl_mul a (e : Int)
  have h2 := zl_mul b (d : Int)
  have h3 := zl_add (a * (e : Int)) (b * (d : Int))
  have h4 := zl_mul (d : Int) (e : Int)
  have z1 : zl (d : Int) = len d := rfl
  have z2 : zl (e : Int) = len e := rfl
  constructor
  · refine Nat.le_trans (m := zl (a * (e : Int) + b * (d : Int))) ?_ (by omega)
    unfold zl
    rw [e1]
    exact len_mono (by rw [sg_abs]; exact Nat.div_le_self _ _)
  · refine Nat.le_trans (m := zl ((d : Int) * (e : Int))) ?_ (by omega)
    unfold zl
    rw [e2]
    exact len_mono (Nat.div_le_self _ _)


end Go.Proofs.YtoobcngbnjeddaaGreatDoor

