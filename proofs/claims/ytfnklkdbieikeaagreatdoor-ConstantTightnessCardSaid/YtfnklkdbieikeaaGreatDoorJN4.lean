/- Joined: ConstantTightnessWalk, DyOpen, IvOpen (what the law leans on). -/
import Derived.Test.YtfnklkdbieikeaaGreatDoorBaseI
import Derived.Test.YtfnklkdbieikeaaGreatDoorBaseD
import Derived.Test.YtfnklkdbieikeaaGreatDoorBaseE
import Derived.Test.YtfnklkdbieikeaaGreatDoorBaseV
import Derived.Test.YtfnklkdbieikeaaGreatDoorJN3
import Derived.ChangeOld
import Derived.Deep.Cut
import Derived.Deep.CutRange
import Derived.Deep.DrawnRows
import Derived.Deep.RegionHeld3
import Derived.Lib.SmallJoins
import Derived.OpenShut
import Derived.ProofKit
namespace Go.Proofs.YtfnklkdbieikeaaGreatDoor
open Go.RowKit
set_option linter.unusedVariables false
set_option linter.unusedSimpArgs false
set_option maxRecDepth 100000
attribute [local go_sem ↓] Go.wp_at_zero Go.wp_at_succ

set_option maxHeartbeats 64000000 in
theorem walk_ConstantTightness (b0 : Bool) (a0 : Option Addr) (len0 cap0 : Nat) (z0 : List Nat) (f0 : Int) (bb0 : Bool) (aa0 : Option Addr) (ll0 cc0 : Nat) (zz0 : List Nat) (ff0 : Int) (a1 : Int) (a2 : Int) (w : World) (h0 : Sl w a0 len0 cap0 z0 ∧ -9223372036854775808 ≤ f0 ∧ f0 ≤ 9223372036854775807) (k0 : Sl w aa0 ll0 cc0 zz0 ∧ -9223372036854775808 ≤ ff0 ∧ ff0 ≤ 9223372036854775807) (h1 : -9223372036854775808 ≤ a1 ∧ a1 ≤ 9223372036854775807) (h2 : -9223372036854775808 ≤ a2 ∧ a2 ≤ 9223372036854775807) (hT : Tab w) :
    Calls Tryz.prog 6 #[.agg #[.bool b0, .slice a0 len0 cap0, .int .i64 f0, .bool bb0, .slice aa0 ll0 cc0, .int .i64 ff0], .int .i64 a1, .int .i64 a2] w (fun e w' => e = .returned (.bool true) ∧ Below w.heap.size w w') := by
  have HT := Lib.hid (fun W (hW : Below w.heap.size w W) => hT.mono hW)
  clear hT
  go_enter Tryz.func6, Tryz.ntmps6
  go_wp2_with fail
  have L := ((Lq.mk0 w).varI (w.heap.size) (by simp) b0 a0 len0 cap0 f0 bb0 aa0 ll0 cc0 ff0)
  (try go_wp2_with fail)
  refine (awake13_any _ (HT.out _ L.below)).mono ?_
  rintro e9 w1 ⟨rfl, be⟩
  replace L := L.step be
  clear be
  have c00 := L.b0.c60
  have c01 := L.b0.c61
  have c02 := L.b0.c62
  have c03 := L.b0.c63
  have c04 := L.b0.c64
  have c05 := L.b0.c65
  (try go_wp2_with fail)
  refine (millI_any b0 bb0 z0 zz0 4 60 a0 aa0 len0 cap0 ll0 cc0 f0 ff0 _ (h0.1.mono L.below) (k0.1.mono L.below) (by omega) (by omega) h0.2.1 h0.2.2 k0.2.1 k0.2.2).mono ?_
  rintro e9 w2 ⟨vx, ok, m, e, n, f, rfl, ii, ⟨lm, ln⟩, he, hf, hv, le1, be⟩
  clear c00 c01 c02 c03 c04 c05
  obtain ⟨A, c, B, d, rfl, ia, ib⟩ := ii.form
  replace L := ((L.step be).n ib).n ia
  clear be ii ia ib
  have hlt0 := L.b0.lt
  replace L := L.varI w2.heap.size rfl (ng m) A (zl m) c e (ng n) B (zl n) d f
  cases ok
  · go_wp2_with fail
    go_ret
    exact ⟨rfl, L.below⟩
  obtain ⟨dv1, dv2⟩ := hv (by first | trivial | rfl)
  clear hv
  obtain ⟨r1, hr1⟩ : ∃ r : Nat, a1 % 100 = (r : Int) := ⟨(a1 % 100).toNat, by omega⟩
  obtain ⟨r2, hr2⟩ : ∃ r : Nat, a2 % 5 = (r : Int) := ⟨(a2 % 5).toNat, by omega⟩
  have o1 := fun W => mod_any a1 100 W (by omega) (by omega) h1.1 h1.2
  have o2 := fun W => mod_any a2 5 W (by omega) (by omega) h2.1 h2.2
  rw [hr1] at o1
  rw [hr2] at o2
  have br1 : r1 < 100 := by omega
  have br2 : r2 < 5 := by omega
  have MO1 := Lib.hid o1
  have MO2 := Lib.hid o2
  have HB1 := h1
  -- the number with so many units
  have ab : AbP (r2 : Int) 3 := by
    have e8 : (2 : Nat) ^ 3 = 8 := by decide
    unfold AbP
    rw [e8]
    omega
  obtain ⟨_, z2, z3, z4, _, _⟩ := nf ab (by omega)
  have g3 := fun W => rof8_any (r2 : Int) W (by omega) (by omega)
  have e1 := mkE_at (nf ab (by omega)).1 (k := 1) (len_le1 (by omega))
  obtain ⟨P, hP⟩ : ∃ z, mkM (r2 : Int) 0 = z := ⟨_, rfl⟩
  obtain ⟨U, hU⟩ : ∃ z, mkE (r2 : Int) 0 = z := ⟨_, rfl⟩
  rw [hP] at z2
  rw [hU] at z3 z4 e1
  rw [hP, hU] at g3
  have w1 : IntKind.i64.wrap (U - (r1 : Int)) = U - (r1 : Int) := by rw [IntKind.wrap_i64]; omega
  have g4 := fun v W h => rmake8_any P (U - (r1 : Int)) v W h (by omega)
  have rr : mkR P (U - (r1 : Int)) = 0 := mk_fits9 (by omega) (by omega) (by omega)
  have zz := zl_mk P (U - (r1 : Int))
  have ee := mkE_at rr (k := 200) z2
  have dv3 := mk_ok rr
  rw [rr] at g4
  obtain ⟨D9, hD9⟩ : ∃ z, mkM P (U - (r1 : Int)) = z := ⟨_, rfl⟩
  obtain ⟨G9, hG9⟩ : ∃ z, mkE P (U - (r1 : Int)) = z := ⟨_, rfl⟩
  rw [hD9, hG9] at g4 dv3
  rw [hD9] at zz
  rw [hG9] at ee
  have hfm : ∀ (b : Bool) (A : Option Addr) (n c : Nat) (e : Int) (W : World), (Instr.field 29 (.agg #[.bool b, .slice A n c, .int .i64 e]) 0).run Tryz.prog W = .ok (.agg #[.bool b, .slice A n c]) W := fun _ _ _ _ _ _ => by kernel_rfl
  have hfe : ∀ (b : Bool) (A : Option Addr) (n c : Nat) (e : Int) (W : World), (Instr.field 29 (.agg #[.bool b, .slice A n c, .int .i64 e]) 1).run Tryz.prog W = .ok (.int .i64 e) W := fun _ _ _ _ _ _ => by kernel_rfl
  have G3 := Lib.hid g3
  have G4 := Lib.hid g4
  clear o1 o2 hr1 hr2 g3 g4 ab e1 hP hU hD9 hG9 rr h0 k0 h1 h2
  replace L := (L.subs (ns' := [(.slice A (zl m) c, m.natAbs), (.slice B (zl n) d, n.natAbs)]) (bs' := [(w2.heap.size, 31, #[.bool (ng m), .slice A (zl m) c, .int .i64 e, .bool (ng n), .slice B (zl n) d, .int .i64 f])]) (by simp) (by simp))
  have cel00 := L.b0.c60
  have cel01 := L.b0.c61
  have cel02 := L.b0.c62
  have cel03 := L.b0.c63
  have cel04 := L.b0.c64
  have cel05 := L.b0.c65
  (try go_wp2_with fail)
  clear cel00 cel01 cel02 cel03 cel04 cel05
  refine (MO1.out _).mono ?_
  rintro e9 w' ⟨rfl, rfl⟩
  (try go_wp2_with fail)
  refine (MO1.out _).mono ?_
  rintro e9 w' ⟨rfl, rfl⟩
  replace L := L.var (w2.heap.size + 1) (by simp) 3 #[.int .i64 a1, .int .i64 (r1 : Int), .int .i64 (r1 : Int)] (plainI3 _ _ _)
  have p0 := L.b0.c30
  have p1 := L.b0.c31
  have p2 := L.b0.c32
  (try go_wp2_with fail)
  clear p0 p1 p2
  obtain ⟨gx, hgx⟩ : ∃ g9, w2.heap.size = g9 := ⟨_, rfl⟩
  rw [hgx] at L hlt0 ⊢
  clear hgx
  go_loopw [31] (fun i wr => ∃ (t : Nat), i = .int .i64 (t : Int) ∧ t ≤ 3 ∧ Lq w wr [(.slice A (zl m) c, m.natAbs), (.slice B (zl n) d, n.natAbs)] [] [] [(gx + 1, 3, #[.int .i64 a1, .int .i64 (r1 : Int), .int .i64 (r1 : Int)]), (gx, 31, #[.bool (ng m), .slice A (zl m) c, .int .i64 e, .bool (ng n), .slice B (zl n) d, .int .i64 f])]) (fun i _ => 3 - (intOf i).toNat)
  case atStart => exact ⟨0, by go_num, by omega, L⟩
  case round =>
    clear L
    obtain ⟨t, rfl, ht, L⟩ := hrel
    rcases Nat.eq_or_lt_of_le ht with rfl | ht2
    · go_wp2_with fail
      go_ret
      exact ⟨rfl, L.below⟩
    obtain ⟨k, hk, hc⟩ : ∃ k : Int, (-9223372036854775808 ≤ k ∧ k ≤ 9223372036854775807) ∧ wr.cell? ⟨gx + 1, t, none⟩ = some (.int .i64 k) := by
      rcases (show t = 0 ∨ t = 1 ∨ t = 2 by omega) with rfl | rfl | rfl
      · exact ⟨a1, HB1, L.b0.c30⟩
      · exact ⟨(r1 : Int), by omega, L.b0.c31⟩
      · exact ⟨(r1 : Int), by omega, L.b0.c32⟩
    have hlt : (t : Int) < 3 := by omega
    have ht0 : (0 : Int) ≤ (t : Int) := by omega
    have w3 : IntKind.i64.wrap ((t : Int) + 1) = (t : Int) + 1 := by rw [IntKind.wrap_i64]; omega
    obtain ⟨j, hj⟩ : ∃ j : Nat, k % 100 = (j : Int) := ⟨(k % 100).toNat, by omega⟩
    have bj : j ≤ 100 := by omega
    have o3 := fun W => mod_any k 100 W (by omega) (by omega) hk.1 hk.2
    rw [hj] at o3
    have th := fun v W h => thin_any m e n f j bj v W h (by omega) (by omega) (by omega) (by omega) le1 dv2
    obtain ⟨_, _, _, y1, y2, _, _, y3⟩ := thin_ok bj (show zl m ≤ 6 by omega) (show zl n ≤ 6 by omega) (show -60 ≤ e ∧ e ≤ 252 by omega) (show -60 ≤ f ∧ f ≤ 252 by omega) le1 dv2
    obtain ⟨N2, hN2⟩ : ∃ z, thN m e n f j = z := ⟨_, rfl⟩
    obtain ⟨F2, hF2⟩ : ∃ z, thF m e n f j = z := ⟨_, rfl⟩
    rw [hN2, hF2] at th y3
    rw [hN2] at y1
    rw [hF2] at y2
    have tx1 := fun v W h (hW : Below w.heap.size w W) => ctight_any m e n f k v W h (by omega) (by omega) (by omega) (by omega) dv1 dv2 hk.1 hk.2 (HT.out W hW)
    have ty1 := fun v W h => s13tight_any m e n f k v W h (by omega) (by omega) (by omega) (by omega) dv1 dv2 hk.1 hk.2
    obtain ⟨B1, hB1⟩ : ∃ z, tgtB m e n f k = z := ⟨_, rfl⟩
    rw [hB1] at tx1 ty1
    have TX1 := Lib.hid tx1
    have TY1 := Lib.hid ty1
    have qb1 : (B1 == B1) = true := by cases B1 <;> rfl
    have qn1 : (B1 != B1) = false := by cases B1 <;> rfl
    clear tx1 ty1 hB1
    have tx2 := fun v W h (hW : Below w.heap.size w W) => ctight_any m e N2 F2 k v W h (by omega) (by omega) (by omega) (by omega) dv1 y3 hk.1 hk.2 (HT.out W hW)
    have ty2 := fun v W h => s13tight_any m e N2 F2 k v W h (by omega) (by omega) (by omega) (by omega) dv1 y3 hk.1 hk.2
    obtain ⟨B2, hB2⟩ : ∃ z, tgtB m e N2 F2 k = z := ⟨_, rfl⟩
    rw [hB2] at tx2 ty2
    have TX2 := Lib.hid tx2
    have TY2 := Lib.hid ty2
    have qb2 : (B2 == B2) = true := by cases B2 <;> rfl
    have qn2 : (B2 != B2) = false := by cases B2 <;> rfl
    clear tx2 ty2 hB2
    have tx3 : ∀ A9 c9 W, IsN W (.slice A9 (zl D9) c9) D9.natAbs → Below w.heap.size w W → Calls Tryz.prog 16 #[.agg #[.bool false, .slice none 0 0, .int .i64 0, .bool (ng D9), .slice A9 (zl D9) c9, .int .i64 G9], .int .i64 k] W (RetB W (tgtB 0 0 D9 G9 k)) := fun A9 c9 W h hW => ctight_any 0 0 D9 G9 k _ W (show IsI W (.agg #[.bool false, .slice none 0 0, .int .i64 0, .bool (ng D9), .slice A9 (zl D9) c9, .int .i64 G9]) 0 0 D9 G9 from ⟨.slice none 0 0, .slice A9 (zl D9) c9, rfl, IsN.zero W, h⟩) (Nat.le_trans zl0 (by omega)) (by omega) (by omega) (by omega) dv_0 dv3 hk.1 hk.2 (HT.out W hW)
    have ty3 : ∀ A9 c9 W, IsN W (.slice A9 (zl D9) c9) D9.natAbs → Calls Tryz.prog 12 #[.agg #[.bool false, .slice none 0 0, .int .i64 0, .bool (ng D9), .slice A9 (zl D9) c9, .int .i64 G9], .int .i64 k] W (RetB W (tgtB 0 0 D9 G9 k)) := fun A9 c9 W h => s13tight_any 0 0 D9 G9 k _ W (show IsI W (.agg #[.bool false, .slice none 0 0, .int .i64 0, .bool (ng D9), .slice A9 (zl D9) c9, .int .i64 G9]) 0 0 D9 G9 from ⟨.slice none 0 0, .slice A9 (zl D9) c9, rfl, IsN.zero W, h⟩) (Nat.le_trans zl0 (by omega)) (by omega) (by omega) (by omega) dv_0 dv3 hk.1 hk.2
    obtain ⟨B3, hB3⟩ : ∃ z, tgtB 0 0 D9 G9 k = z := ⟨_, rfl⟩
    rw [hB3] at tx3 ty3
    have TX3 := Lib.hid tx3
    have TY3 := Lib.hid ty3
    have qb3 : (B3 == B3) = true := by cases B3 <;> rfl
    have qn3 : (B3 != B3) = false := by cases B3 <;> rfl
    clear tx3 ty3 hB3
    have MO3 := Lib.hid o3
    have TH := Lib.hid th
    clear o3 th y1 y2 y3 hN2 hF2 hj bj hk
    (try go_wp2_with fail)
    clear hc
    have Q0 := Lib.hid (fun Z (hZ : Below wr.heap.size wr Z) => (L.tl.b0.mono hZ).c60)
    have Q1 := Lib.hid (fun Z (hZ : Below wr.heap.size wr Z) => (L.tl.b0.mono hZ).c61)
    have Q2 := Lib.hid (fun Z (hZ : Below wr.heap.size wr Z) => (L.tl.b0.mono hZ).c62)
    have Q3 := Lib.hid (fun Z (hZ : Below wr.heap.size wr Z) => (L.tl.b0.mono hZ).c63)
    have Q4 := Lib.hid (fun Z (hZ : Below wr.heap.size wr Z) => (L.tl.b0.mono hZ).c64)
    have Q5 := Lib.hid (fun Z (hZ : Below wr.heap.size wr Z) => (L.tl.b0.mono hZ).c65)
    have hb1 := L.tl.b0.lt
    have D0 : Dq wr wr [(.slice A (zl m) c, m.natAbs), (.slice B (zl n) d, n.natAbs)] [] [] [] := ⟨((Lq.mk0 wr).n (L.getN (v := .slice B (zl n) d) (x := (n).natAbs) (by simp))).n (L.getN (v := .slice A (zl m) c) (x := (m).natAbs) (by simp)), List.nodup_nil, fun p hp => by cases hp⟩
    have D := D0.drew
    have LL := Lib.hid L
    clear L
    obtain ⟨K, hK⟩ : ∃ K, wr.heap.size = K := ⟨_, rfl⟩
    have hz0 : K ≤ wr.heap.size := by omega
    have hc1 : gx < K := by omega
    have hmd : wr.drew.heap.size = K := hK
    go_cut [11] from 35 to 38 (fun s5 wx => Made1I wr m e N2 F2 s5 wx)
    case first =>
      go_region_held3 (fun w' => w'.cell? ⟨gx, 0, none⟩ = some (.bool (ng m)) ∧ w'.cell? ⟨gx, 1, none⟩ = some (.slice A (zl m) c) ∧ w'.cell? ⟨gx, 2, none⟩ = some (.int .i64 e) ∧ w'.cell? ⟨gx, 3, none⟩ = some (.bool (ng n)) ∧ w'.cell? ⟨gx, 4, none⟩ = some (.slice B (zl n) d) ∧ w'.cell? ⟨gx, 5, none⟩ = some (.int .i64 f)) (((try dsimp only); refine ⟨?_, ?_, ?_, ?_, ?_, ?_⟩ <;> (repeat (first | (with_reducible exact Q0.out _ D.lq.below) | (with_reducible exact Q0.out _ D0.lq.below) | (with_reducible exact Q1.out _ D.lq.below) | (with_reducible exact Q1.out _ D0.lq.below) | (with_reducible exact Q2.out _ D.lq.below) | (with_reducible exact Q2.out _ D0.lq.below) | (with_reducible exact Q3.out _ D.lq.below) | (with_reducible exact Q3.out _ D0.lq.below) | (with_reducible exact Q4.out _ D.lq.below) | (with_reducible exact Q4.out _ D0.lq.below) | (with_reducible exact Q5.out _ D.lq.below) | (with_reducible exact Q5.out _ D0.lq.below) | (with_reducible refine c_alloc _ ?_) | (with_reducible refine c_drew ?_) | (with_reducible refine c_set ?_ (by assumption) ?_) | omega)))) (first | (go_at_call 9; (with_reducible refine (MO3.out _).mono ?_); rintro e9 wh ⟨rfl, rfl⟩) | (go_at_call 18; (with_reducible refine (TH.out _ _ ?_).mono ?_); (· (first | (with_reducible refine isI_n (D.getN ?_) (D.getN ?_) <;> (repeat (first | (with_reducible exact List.mem_cons_self) | apply List.mem_cons_of_mem))) | (with_reducible refine isI_n ((D.boxI false none 0 0 0 false none 0 0 0).getN ?_) ((D.boxI false none 0 0 0 false none 0 0 0).getN ?_) <;> (repeat (first | (with_reducible exact List.mem_cons_self) | apply List.mem_cons_of_mem))) | (with_reducible refine isI_n ((D0.boxI false none 0 0 0 false none 0 0 0).drew.getN ?_) ((D0.boxI false none 0 0 0 false none 0 0 0).drew.getN ?_) <;> (repeat (first | (with_reducible exact List.mem_cons_self) | apply List.mem_cons_of_mem))))); rintro e9 wh ⟨vh, rfl, ii, be⟩; obtain ⟨A7, c7, B7, d7, rfl, ia, ib⟩ := ii.form; (first | (replace D := D.step be) | (replace D := (D.boxMI hmd false none 0 0 0 false none 0 0 0).step be) | (replace D := (D.boxI false none 0 0 0 false none 0 0 0).step be)); have hz := be.size; (try simp at hz); replace D := (D.n ib).n ia; clear ii ia ib; (try (have x00 := D.lq.b0.c60; have y00 := D.lq.b0.fr 0; have x01 := D.lq.b0.c61; have y01 := D.lq.b0.fr 1; have x02 := D.lq.b0.c62; have y02 := D.lq.b0.fr 2; have x03 := D.lq.b0.c63; have y03 := D.lq.b0.fr 3; have x04 := D.lq.b0.c64; have y04 := D.lq.b0.fr 4; have x05 := D.lq.b0.c65; have y05 := D.lq.b0.fr 5)); (try obtain ⟨na, nb, nc, nd, nl⟩ := D.n0)))
      all_goals
        go_wp2_with fail
        go_meet
        first
        | ((with_reducible refine made1i_a D ?_ ?_) <;> (repeat (first | (with_reducible exact List.mem_cons_self) | apply List.mem_cons_of_mem)))
        | ((with_reducible refine made1i_b D ?_ ?_) <;> (repeat (first | (with_reducible exact List.mem_cons_self) | apply List.mem_cons_of_mem)))
    case rest =>
      obtain ⟨gy, A7, c7, B7, d7, rfl, hg, bw, hb3, q1, q2⟩ := hcut
      have L := (((LL.out.step bw).n q2).n q1).b hb3
      clear D D0 hmd hz0 hK LL hb3 q1 q2 bw hc1 Q0 Q1 Q2 Q3 Q4 Q5
      generalize wc = wd at *
      (try go_wp2_with fail)
      refine (MO2.out _).mono ?_
      rintro e9 w' ⟨rfl, rfl⟩
      (try go_wp2_with fail)
      refine (G3.out _).mono ?_
      rintro e w31 ⟨v1, rfl, id, be⟩
      obtain ⟨A3, c3, rfl, _, in9⟩ := id.form
      replace L := (L.step be).n in9
      clear be id in9
      (try go_wp2_with fail)
      refine (MO2.out _).mono ?_
      rintro e9 w' ⟨rfl, rfl⟩
      (try go_wp2_with fail)
      refine (G3.out _).mono ?_
      rintro e w32 ⟨v1, rfl, id, be⟩
      obtain ⟨A4, c4, rfl, _, in9⟩ := id.form
      replace L := (L.step be).n in9
      clear be id in9
      (try go_wp2_with fail)
      refine (MO1.out _).mono ?_
      rintro e9 w' ⟨rfl, rfl⟩
      (try go_wp2_with fail)
      refine (G4.out _ _ (isZ_s (z := P) (s := .slice A3 (zl P) c3) (L.getN (by simp)))).mono ?_
      rintro e w33 ⟨v1, rfl, id, be⟩
      obtain ⟨A9, c9, rfl, _, in9⟩ := id.form
      replace L := (L.step be).n in9
      clear be id in9
      have hl9 := L.b0.lt
      replace L := L.varD w33.heap.size rfl (ng D9) A9 (zl D9) c9 G9
      have cel00 := L.b0.c30
      have cel01 := L.b0.c31
      have cel02 := L.b0.c32
      replace L := L.varI (w33.heap.size + 1) (by simp) false none 0 0 0 (ng D9) A9 (zl D9) c9 G9
      have v00 := L.b0.c60
      have v01 := L.b0.c61
      have v02 := L.b0.c62
      have v03 := L.b0.c63
      have v04 := L.b0.c64
      have v05 := L.b0.c65
      go_wp2_with fail
      clear cel00 cel01 cel02
      clear v00 v01 v02 v03 v04 v05
      obtain ⟨gd, hgd⟩ : ∃ g9, w33.heap.size = g9 := ⟨_, rfl⟩
      rw [hgd] at L hl9 ⊢
      clear hgd
      replace L := L.drew
      have cel00 := L.b0.c60
      have cel01 := L.b0.c61
      have cel02 := L.b0.c62
      have cel03 := L.b0.c63
      have cel04 := L.b0.c64
      have cel05 := L.b0.c65
      have cel20 := L.tl.tl.b0.c60
      have cel21 := L.tl.tl.b0.c61
      have cel22 := L.tl.tl.b0.c62
      have cel23 := L.tl.tl.b0.c63
      have cel24 := L.tl.tl.b0.c64
      have cel25 := L.tl.tl.b0.c65
      have cel40 := L.tl.tl.tl.tl.b0.c60
      have cel41 := L.tl.tl.tl.tl.b0.c61
      have cel42 := L.tl.tl.tl.tl.b0.c62
      have cel43 := L.tl.tl.tl.tl.b0.c63
      have cel44 := L.tl.tl.tl.tl.b0.c64
      have cel45 := L.tl.tl.tl.tl.b0.c65
      go_region_held3 (fun w' => w'.cell? ⟨gx, 0, none⟩ = some (.bool (ng m)) ∧ w'.cell? ⟨gx, 1, none⟩ = some (.slice A (zl m) c) ∧ w'.cell? ⟨gx, 2, none⟩ = some (.int .i64 e) ∧ w'.cell? ⟨gx, 3, none⟩ = some (.bool (ng n)) ∧ w'.cell? ⟨gx, 4, none⟩ = some (.slice B (zl n) d) ∧ w'.cell? ⟨gx, 5, none⟩ = some (.int .i64 f) ∧ w'.cell? ⟨gy, 0, none⟩ = some (.bool (ng m)) ∧ w'.cell? ⟨gy, 1, none⟩ = some (.slice A7 (zl m) c7) ∧ w'.cell? ⟨gy, 2, none⟩ = some (.int .i64 e) ∧ w'.cell? ⟨gy, 3, none⟩ = some (.bool (ng N2)) ∧ w'.cell? ⟨gy, 4, none⟩ = some (.slice B7 (zl N2) d7) ∧ w'.cell? ⟨gy, 5, none⟩ = some (.int .i64 F2) ∧ w'.cell? ⟨(gd + 1), 0, none⟩ = some (.bool false) ∧ w'.cell? ⟨(gd + 1), 1, none⟩ = some (.slice none 0 0) ∧ w'.cell? ⟨(gd + 1), 2, none⟩ = some (.int .i64 0) ∧ w'.cell? ⟨(gd + 1), 3, none⟩ = some (.bool (ng D9)) ∧ w'.cell? ⟨(gd + 1), 4, none⟩ = some (.slice A9 (zl D9) c9) ∧ w'.cell? ⟨(gd + 1), 5, none⟩ = some (.int .i64 G9)) (first | (with_reducible exact ⟨L.tl.tl.tl.tl.b0.c60, L.tl.tl.tl.tl.b0.c61, L.tl.tl.tl.tl.b0.c62, L.tl.tl.tl.tl.b0.c63, L.tl.tl.tl.tl.b0.c64, L.tl.tl.tl.tl.b0.c65, L.tl.tl.b0.c60, L.tl.tl.b0.c61, L.tl.tl.b0.c62, L.tl.tl.b0.c63, L.tl.tl.b0.c64, L.tl.tl.b0.c65, L.b0.c60, L.b0.c61, L.b0.c62, L.b0.c63, L.b0.c64, L.b0.c65⟩) | exact ⟨L.tl.tl.tl.tl.b0.c60, L.tl.tl.tl.tl.b0.c61, L.tl.tl.tl.tl.b0.c62, L.tl.tl.tl.tl.b0.c63, L.tl.tl.tl.tl.b0.c64, L.tl.tl.tl.tl.b0.c65, L.tl.tl.b0.c60, L.tl.tl.b0.c61, L.tl.tl.b0.c62, L.tl.tl.b0.c63, L.tl.tl.b0.c64, L.tl.tl.b0.c65, L.b0.c60, L.b0.c61, L.b0.c62, L.b0.c63, L.b0.c64, L.b0.c65⟩) (first | (go_at_call 16; (with_reducible refine (TX1.out _ _ ?_ ?_ ).mono ?_); (· (refine isI_n (L.getN ?_) (L.getN ?_) <;> (repeat (first | (with_reducible exact List.mem_cons_self) | apply List.mem_cons_of_mem)))); (· exact L.below); rintro e wh ⟨rfl, be⟩; replace L := L.step be; clear be) | (go_at_call 16; (with_reducible refine (TX2.out _ _ ?_ ?_ ).mono ?_); (· (refine isI_n (L.getN ?_) (L.getN ?_) <;> (repeat (first | (with_reducible exact List.mem_cons_self) | apply List.mem_cons_of_mem)))); (· exact L.below); rintro e wh ⟨rfl, be⟩; replace L := L.step be; clear be) | (go_at_call 16; (with_reducible refine (TX3.out _ _ _ ?_ ?_ ).mono ?_); (· (refine L.getN ?_; (repeat (first | (with_reducible exact List.mem_cons_self) | apply List.mem_cons_of_mem)))); (· exact L.below); rintro e wh ⟨rfl, be⟩; replace L := L.step be; clear be) | (go_at_call 12; (with_reducible refine (TY1.out _ _ ?_ ).mono ?_); (· (refine isI_n (L.getN ?_) (L.getN ?_) <;> (repeat (first | (with_reducible exact List.mem_cons_self) | apply List.mem_cons_of_mem)))); rintro e wh ⟨rfl, be⟩; replace L := L.step be; clear be) | (go_at_call 12; (with_reducible refine (TY2.out _ _ ?_ ).mono ?_); (· (refine isI_n (L.getN ?_) (L.getN ?_) <;> (repeat (first | (with_reducible exact List.mem_cons_self) | apply List.mem_cons_of_mem)))); rintro e wh ⟨rfl, be⟩; replace L := L.step be; clear be) | (go_at_call 12; (with_reducible refine (TY3.out _ _ _ ?_ ).mono ?_); (· (refine L.getN ?_; (repeat (first | (with_reducible exact List.mem_cons_self) | apply List.mem_cons_of_mem)))); rintro e wh ⟨rfl, be⟩; replace L := L.step be; clear be))
      clear cel00 cel01 cel02 cel03 cel04 cel05 cel20 cel21 cel22 cel23 cel24 cel25 cel40 cel41 cel42 cel43 cel44 cel45
      go_wp2_with fail
      go_roundw
      case rel => exact ⟨t + 1, by go_num, by omega, L.subs (by simp) (by simp)⟩
      case measure => simp [intOf]; omega

section
open Go.ChangeShapes Go.WideShapes Go.ChangeAt

theorem open_slice8 {H : Type} {enc : TypeId × Value → H} {W : World} {base : Nat} {fuel : Nat} {v : Value} {x : DataW H × List MemPlace} (h : DataW.trod enc Tryz.prog W base (fun _ => true) true fuel 25 [v] = some x) : ∃ a n c l, v = .slice a n c ∧ Sl W a n c l := by
  rcases open_ints Tryz.underlying25 Tryz.underlying107 (by kernel_rfl) h with ⟨hcs, _⟩ | ⟨x, l, c, zs, hcs, _, hl, hm, hz, _, hcell, hwz⟩
  · exact ⟨none, 0, 0, [], by simpa using hcs, Sl.nil W⟩
  · exact ⟨_, _, _, _, by simpa using hcs, sl_of_ints hl hm (by simpa using hz) hcell hwz⟩
end
section
open Go.ChangeShapes Go.WideShapes Go.ChangeAt

theorem array6 {a : Array Value} (h : a.size = 6) : ∃ x0 x1 x2 x3 x4 x5, a = #[x0, x1, x2, x3, x4, x5] := by
  obtain ⟨l⟩ := a
  rcases l with _ | ⟨x0, _ | ⟨x1, _ | ⟨x2, _ | ⟨x3, _ | ⟨x4, _ | ⟨x5, _ | ⟨x6, l⟩⟩⟩⟩⟩⟩⟩ <;> first | exact ⟨_, _, _, _, _, _, rfl⟩ | (exfalso; simp at h)
theorem open_dy3 {H : Type} {enc : TypeId × Value → H} {W : World} {base n : Nat} {c0 c1 c2 : Value} {y : DataW H × List MemPlace} (h : DataW.trod enc Tryz.prog W base (fun _ => true) true n 29 [c0, c1, c2] = some y) :
    ∃ b A p c l e, c0 = .bool b ∧ c1 = .slice A p c ∧ c2 = .int .i64 e ∧ Sl W A p c l ∧ -9223372036854775808 ≤ e ∧ e ≤ 9223372036854775807 := by
  obtain ⟨y0, y1, n, _, _, h0, h1⟩ := trod_struct2 Tryz.underlying29 h
  have e0 : Tryz.prog.cellsOf 27 = 2 := by kernel_rfl
  have e1 : Tryz.prog.cellsOf 25 = 1 := by kernel_rfl
  have e3 : Tryz.prog.cellsOf 3 = 1 := by kernel_rfl
  have h0' : DataW.trod enc Tryz.prog W base (fun _ => true) true n 27 [c0, c1] = some y0 := by
    simpa [Value.cells, e0] using h0
  have h1' : DataW.trod enc Tryz.prog W base (fun _ => true) true n 3 [c2] = some y1 := by
    simpa [Value.cells, e0, e3] using h1
  obtain ⟨z0, z1, n2, _, _, g0, g1⟩ := trod_struct2 Tryz.underlying27 h0'
  have e2 : Tryz.prog.cellsOf 4 = 1 := by kernel_rfl
  have g0' : DataW.trod enc Tryz.prog W base (fun _ => true) true n2 4 [c0] = some z0 := by
    simpa [e2] using g0
  have g1' : DataW.trod enc Tryz.prog W base (fun _ => true) true n2 25 [c1] = some z1 := by
    simpa [e1, e2] using g1
  obtain ⟨b, hb, _⟩ := DataW.trod_bool Tryz.underlying4 g0'
  obtain rfl : c0 = .bool b := by simpa using hb
  obtain ⟨A, n3, c3, l, rfl, s1⟩ := open_slice8 g1'
  obtain ⟨e, he, _, hw⟩ := DataW.trod_int Tryz.underlying3 h1'
  obtain rfl : c2 = .int .i64 e := by simpa using he
  obtain ⟨k1, k2⟩ := bounds_i64 hw
  exact ⟨b, A, n3, c3, l, e, rfl, rfl, rfl, s1, k1, k2⟩
theorem open_iv {H : Type} {enc : TypeId × Value → H} {W : World} {r : Reach} {b0 base : Nat} {v : Value} {d : DataW H} {p : List MemPlace} (hv : Value.okWide Tryz.prog W r b0 31 v) (h : DataW.Trod enc Tryz.prog W base (fun _ => true) true 31 v d p) :
    ∃ b A n c l e b' A' n' c' l' e', v = .agg #[.bool b, .slice A n c, .int .i64 e, .bool b', .slice A' n' c', .int .i64 e'] ∧ (Sl W A n c l ∧ -9223372036854775808 ≤ e ∧ e ≤ 9223372036854775807) ∧ (Sl W A' n' c' l' ∧ -9223372036854775808 ≤ e' ∧ e' ≤ 9223372036854775807) := by
  obtain ⟨cs, rfl, hsz⟩ := okWide_struct Tryz.underlying31 hv
  obtain ⟨c0, c1, c2, c3, c4, c5, rfl⟩ := array6 (hsz.trans (show Tryz.prog.cellsOf 31 = 6 by kernel_rfl))
  obtain ⟨fuel, hf⟩ := h
  obtain ⟨y0, y1, n, _, _, h0, h1⟩ := trod_struct2 Tryz.underlying31 hf
  have e0 : Tryz.prog.cellsOf 29 = 3 := by kernel_rfl
  have h0' : DataW.trod enc Tryz.prog W base (fun _ => true) true n 29 [c0, c1, c2] = some y0 := by
    simpa [Value.cells, e0] using h0
  have h1' : DataW.trod enc Tryz.prog W base (fun _ => true) true n 29 [c3, c4, c5] = some y1 := by
    simpa [Value.cells, e0] using h1
  obtain ⟨b, A, n1, k, l, e, rfl, rfl, rfl, q1⟩ := open_dy3 h0'
  obtain ⟨b', A', n1', k', l', e', rfl, rfl, rfl, q2⟩ := open_dy3 h1'
  exact ⟨b, A, n1, k, l, e, b', A', n1', k', l', e', rfl, q1, q2⟩

end

end Go.Proofs.YtfnklkdbieikeaaGreatDoor
