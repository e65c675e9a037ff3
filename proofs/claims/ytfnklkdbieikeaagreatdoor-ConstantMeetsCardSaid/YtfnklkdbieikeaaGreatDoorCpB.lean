/- The program's constant: the sum of a series. -/
import Derived.Test.YtfnklkdbieikeaaGreatDoorCpA
import Derived.Test.YtfnklkdbieikeaaGreatDoorCpN
import Derived.Test.YtfnklkdbieikeaaGreatDoorIvPD
import Derived.Test.YtfnklkdbieikeaaGreatDoorBaseU
import Derived.Test.YtfnklkdbieikeaaGreatDoorBaseF
import Derived.Deep.RegionHeld3
import Derived.Deep.DrawnRows
import Derived.Deep.Cut
import Derived.Deep.CutRange
namespace Go.Proofs.YtfnklkdbieikeaaGreatDoor
open Go.RowKit
set_option linter.unusedVariables false
set_option linter.unusedSimpArgs false
set_option maxRecDepth 100000
attribute [local go_sem ↓] Go.wp_at_zero Go.wp_at_succ

theorem plainP (a : Int) (F : Nat) (n : Int) : Plain #[.int .i64 a, .func (.func F) #[] #[], .int .i64 n] := fun j x => by
  match j with
  | 0 => simp
  | 1 => simp
  | 2 => simp
  | j + 3 => simp
theorem Lq.varP {w0 w : World} {ns : List (Value × Nat)} {zs : List (Value × Int)} {qs : List (Value × Int × Nat)} {bs : List (Nat × TypeId × Array Value)} (h : Lq w0 w ns zs qs bs) (g : Nat) (hg : g = w.heap.size) (a : Int) (F : Nat) (n : Int) : Lq w0 (w.alloc (.cells #[.int .i64 a, .func (.func F) #[] #[], .int .i64 n] 87)) ns zs qs ((g, 87, #[.int .i64 a, .func (.func F) #[] #[], .int .i64 n]) :: bs) := h.var g hg _ _ (plainP _ _ _)
theorem Lq.subs {w0 w : World} {ns : List (Value × Nat)} {zs : List (Value × Int)} {qs : List (Value × Int × Nat)} {bs : List (Nat × TypeId × Array Value)} (h : Lq w0 w ns zs qs bs) {ns' : List (Value × Nat)} {bs' : List (Nat × TypeId × Array Value)} (h1 : ∀ p ∈ ns', p ∈ ns) (h2 : ∀ b ∈ bs', b ∈ bs) : Lq w0 w ns' [] [] bs' :=
  ⟨h.below, fun x hx => h.ns x (h1 x hx), fun _ x => (by cases x), fun _ x => (by cases x), fun x hx => h.bs x (h2 x hx)⟩

set_option maxHeartbeats 16000000 in
theorem csum_any (F : Nat) (hen : ∀ args w, (callFunc F args).run Tryz.prog w = .ok (.enter F args) w) (p : Nat → Int × Int) (n fac S : Int) (v : Nat) (w : World) (hg : GdP p) (hS : smP p 600 0 (2 ^ v) 0 = some S) (hfac : AbP fac 10) (hv : v ≤ 3900) (hT : Tab w) (hf : ∀ (j : Nat) W, j ≤ 1000 → Calls Tryz.prog F #[.int .i64 n, .int .i64 (j : Int)] W (RetQ W (Rat.divInt (p j).1 (p j).2))) :
    Calls Tryz.prog 114 #[.agg #[.int .i64 fac, .func (.func F) #[] #[], .int .i64 n], .int .i64 (v : Int)] w (RetD8 w (mkM (S * fac) 0) (mkE (S * fac) 0)) := by
  have hfb : -1024 ≤ fac ∧ fac ≤ 1024 := by
    have e10 : (2 : Nat) ^ 10 = 1024 := by decide
    unfold AbP at hfac
    rw [e10] at hfac
    omega
  have hSb := smP_abs hg 600 0 _ _ _ (sp_first hS)
  have HR0 := sp_first hS
  have HT := Lib.hid (fun W (hW : Below w.heap.size w W) => hT.mono hW)
  have g1 := fun W (hW : Below w.heap.size w W) => dof_any 1 W (by omega) (by omega) (hT.mono hW)
  obtain ⟨u1, u2, u3⟩ := nf_up (k := v) (by omega)
  obtain ⟨_, y2, y3, y4, _, _⟩ := nf (t := 1) (v := 0) (by unfold AbP; decide) (by omega)
  have g2 := fun x W h (hW : Below w.heap.size w W) => dshift_any (mkM 1 0) (mkE 1 0) (v : Int) x W h (by omega) (by omega) (by omega) (hT.mono hW)
  rw [u1, u2, u3] at g2
  have g3 := fun W (hW : Below w.heap.size w W) => dof_any fac W (by omega) (by omega) (hT.mono hW)
  obtain ⟨f1, f2, f3, f4, _, _⟩ := nf hfac (by omega)
  obtain ⟨s1, s2, s3, s4, _, _⟩ := nf hSb (by omega)
  obtain ⟨m1, m2, m3⟩ := nf_mul hSb hfac (by omega)
  have g4 := fun x y W h k (hW : Below w.heap.size w W) => dmul_any (mkM S 0) (mkE S 0) (mkM fac 0) (mkE fac 0) x y W h k (by omega) (by omega) (by omega) (by omega) (hT.mono hW)
  rw [m1, m2, m3] at g4
  clear hfb hfac u1 u2 u3 y2 y3 y4 f1 f2 f3 f4 s1 s2 s3 s4 m1 m2 m3 hS hSb
  generalize mkM (S * fac) 0 = Mr at *
  generalize mkE (S * fac) 0 = Er at *
  generalize mkM fac 0 = Mf at *
  generalize mkE fac 0 = Ef at *
  generalize mkM 1 0 = M1 at *
  generalize mkE 1 0 = E1 at *
  generalize hP : (2 : Int) ^ v = P at *
  obtain ⟨M, hM⟩ : ∃ z, mkM P 0 = z := ⟨_, rfl⟩
  obtain ⟨E, hE⟩ : ∃ z, mkE P 0 = z := ⟨_, rfl⟩
  rw [hM, hE] at g2
  have HR := Lib.hid (And.intro HR0 (And.intro (And.intro hM hE) nf00))
  have G1 := Lib.hid g1
  have G2 := Lib.hid g2
  have G3 := Lib.hid g3
  have G4 := Lib.hid g4
  have HF := Lib.hid hf
  have HG := Lib.hid hg
  have HV := Lib.hid hv
  clear g1 g2 g3 g4 hf hg hv HR0 hM hE hP hT
  go_enter Tryz.func114, Tryz.ntmps114
  have L := ((((Lq.mk0 w).varP (w.heap.size) (by simp) fac F n).varD (w.heap.size + 1) (by simp) false none 0 0 0).varD (w.heap.size + 2) (by simp) false none 0 0 0)
  have c00 := L.b0.c30
  have f00 := L.b0.fr 0
  have c01 := L.b0.c31
  have f01 := L.b0.fr 1
  have c02 := L.b0.c32
  have f02 := L.b0.fr 2
  (try go_wp2_with fail)
  refine (G1.out _ L.below).mono ?_
  rintro e w1 ⟨v1, rfl, id, be⟩
  clear c00 f00 c01 f01 c02 f02
  replace L := L.step be
  clear be
  (try go_wp2_with fail)
  refine (G2.out _ _ id L.below).mono ?_
  rintro e w2 ⟨v2, rfl, iz, be⟩
  obtain ⟨A1, c1, rfl, _, in9⟩ := iz.form
  replace L := (L.step be).n in9
  clear be iz in9 id
  have hl9 := L.b0.lt
  replace L := L.varD w2.heap.size rfl (ng M) A1 (zl M) c1 E
  have c00 := L.b0.c30
  have c01 := L.b0.c31
  have c02 := L.b0.c32
  go_wp2_with fail
  clear c00 c01 c02
  obtain ⟨gt, hgt⟩ : ∃ g9, w2.heap.size = g9 := ⟨_, rfl⟩
  rw [hgt] at L hl9 ⊢
  clear hgt
  clear G1 G2
  go_loopw [8] (fun i wr => ∃ (f k : Nat) (t s M E N K : Int) (A1 A2 : Option Addr) (c1 c2 : Nat), i = .int .i64 (k : Int) ∧ Lq w wr [(.slice A1 (zl M) c1, M.natAbs), (.slice A2 (zl N) c2, N.natAbs)] [] [] [(gt, 29, #[.bool (ng M), .slice A1 (zl M) c1, .int .i64 E]), (w.heap.size + 2, 29, #[.bool (ng N), .slice A2 (zl N) c2, .int .i64 K]), (w.heap.size, 87, #[.int .i64 fac, .func (.func F) #[] #[], .int .i64 n]), (w.heap.size + 1, 29, #[.bool false, .slice none 0 0, .int .i64 0])] ∧ Hid (SpI p v f k t s S ∧ (mkM t 0 = M ∧ mkE t 0 = E) ∧ mkM s 0 = N ∧ mkE s 0 = K)) (fun i _ => 700 - (intOf i).toNat)
  case atStart =>
    have zz : zl 0 = 0 := len_zero
    have LN := L.n (v := .slice none 0 0) (x := 0) (IsN.zero _)
    refine ⟨600, 0, P, 0, M, E, 0, 0, A1, none, c1, 0, by go_num, ?_, HR⟩
    rw [zz]
    exact LN.subs (by simp) (by simp [ng])
  case round =>
    clear L HR
    obtain ⟨f, k, t, s, M, E, N, K, A1, A2, c1, c2, rfl, L, HR⟩ := hrel
    obtain ⟨hI, ⟨hM, hE⟩, hN, hK⟩ := HR.out
    have hv := HV.out
    obtain ⟨ht, hs, hfk, _⟩ := id hI
    obtain ⟨_, z2, z3, z4, _, _⟩ := nf ht (by omega)
    obtain ⟨q1, q2⟩ := nf_rat ht (by omega)
    obtain ⟨g, rfl, hk, ht2, n1, n2⟩ := hI.step HG.out
    obtain ⟨r1, r2, r3, r4, _, _⟩ := nf ht2 (by omega)
    have r5 := nf_sign ht2 (by omega)
    obtain ⟨p1, p2, p3⟩ := HG.out k (by omega)
    have zt := ht.zl
    have hb9 := L.tl.b0.lt
    have hc9 := L.b0.lt
    have o1 := fun x W h => drat_any (mkM t 0) (mkE t 0) x W h (by omega) (by omega)
    rw [q1, q2] at o1
    have o2 := fun W => HF.out k W (by omega)
    unfold RetQ at o2
    have cs := cut_st p k t p2
    obtain ⟨d, hd⟩ : ∃ d : Nat, (p k).2 = (d : Int) := ⟨(p k).2.toNat, by omega⟩
    have ds := divInt_small (p k).1 d 2 (show zl (p k).1 ≤ 2 from len_le2 (by omega)) (len_le2 (by omega)) (by omega)
    rw [← hd] at ds
    have dp := den_pos' (Rat.divInt (p k).1 (p k).2)
    generalize (Rat.divInt (p k).1 (p k).2).num = a at *
    generalize (Rat.divInt (p k).1 (p k).2).den = b at *
    have o3 := fun x y W h j => pmul_any t 1 a b x y W h j (by omega) (show len 1 ≤ 1000000 from Nat.le_trans (len_le1 (by omega)) (by omega)) (by omega) (by omega) (by omega) dp
    unfold RetQ at o3
    have sz := divInt_small (t * a) (1 * b) 600 (by have := zl_mul t a; omega) (by rw [Nat.one_mul]; omega) (by omega)
    rw [Int.natCast_mul] at sz
    have xp := den_pos' (Rat.divInt (t * a) (((1 : Nat) : Int) * (b : Int)))
    have xe := rat_self (Rat.divInt (t * a) (((1 : Nat) : Int) * (b : Int)))
    generalize Rat.divInt (t * a) (((1 : Nat) : Int) * (b : Int)) = X at *
    have o4 := fun x W h (hW : Below w.heap.size w W) => gfloorR_any X.num X.den 0 x W h (by omega) (by omega) xp (by omega) (by omega) (HT.out W hW)
    obtain ⟨e1, e2, e3⟩ := g_yes (p := 0) (by decide) (cutQ (Rat.divInt X.num (X.den : Int)) 0)
    rw [e1, e2, e3, xe, cs, Int.neg_zero, r1] at o4
    have o5 := fun x W h => dsign_any (mkM (stP p k t) 0) (mkE (stP p k t) 0) x W h (by omega)
    have hsu := ht2.up (show v ≤ v + k by omega)
    obtain ⟨a1, a2, a3⟩ := nf_add hs hsu (by omega)
    obtain ⟨_, b2, b3, b4, _, _⟩ := nf hs (by omega)
    have o6 := fun x y W h j (hW : Below w.heap.size w W) => dadd_any (mkM s 0) (mkE s 0) (mkM (stP p k t) 0) (mkE (stP p k t) 0) x y W h j (by omega) (by omega) (by omega) (by omega) (HT.out W hW)
    rw [a1, a2, a3] at o6
    have w3 : IntKind.i64.wrap ((k : Int) + 1) = (k : Int) + 1 := by rw [IntKind.wrap_i64]; omega
    clear q1 q2 z2 z3 z4 p1 p2 p3 hd ds cs sz xp xe e1 e2 e3 r1 r2 r3 r4 a1 a2 a3 b2 b3 b4 hsu zt dp hI hv ht hs ht2
    obtain ⟨t2, ht2⟩ : ∃ z, stP p k t = z := ⟨_, rfl⟩
    rw [ht2] at n1 n2 r5 o4 o5 o6
    obtain ⟨s2, hs2⟩ : ∃ z, s + t2 = z := ⟨_, rfl⟩
    rw [hs2] at n2 o6
    rw [hM, hE] at o1
    rw [hN, hK] at o6
    obtain ⟨M2, hM2⟩ : ∃ z, mkM t2 0 = z := ⟨_, rfl⟩
    obtain ⟨E2, hE2⟩ : ∃ z, mkE t2 0 = z := ⟨_, rfl⟩
    obtain ⟨N2, hN2⟩ : ∃ z, mkM s2 0 = z := ⟨_, rfl⟩
    obtain ⟨K2, hK2⟩ : ∃ z, mkE s2 0 = z := ⟨_, rfl⟩
    rw [hM2, hE2] at o4 o5 o6
    rw [hM2] at r5
    rw [hN2, hK2] at o6
    generalize X.num = xa at *
    generalize X.den = xd at *
    obtain ⟨sg9, hsg9⟩ : ∃ z, cmpI M2 0 = z := ⟨_, rfl⟩
    rw [hsg9] at o5 r5
    have O1 := Lib.hid o1
    have O2 := Lib.hid o2
    have O3 := Lib.hid o3
    have O4 := Lib.hid o4
    have O5 := Lib.hid o5
    have O6 := Lib.hid o6
    have HQ := Lib.hid (And.intro (And.intro hN hK) (And.intro n1 n2))
    have HM2 := Lib.hid (And.intro (And.intro hM2 hE2) (And.intro hN2 hK2))
    clear o1 o2 o3 o4 o5 o6 hsg9 n1 n2 hM hE hN hK hM2 hE2 hN2 hK2 hs2 ht2 HR hfk X
    have nb : w.heap.size + 2 ≠ gt := by omega
    (try go_wp2_with fail)
    replace L := L.drew
    have cel00 := L.b0.c30
    have f00 := L.b0.fr 0
    have cel01 := L.b0.c31
    have f01 := L.b0.fr 1
    have cel02 := L.b0.c32
    have f02 := L.b0.fr 2
    have cel20 := L.tl.tl.b0.c30
    have cel21 := L.tl.tl.b0.c31
    have cel22 := L.tl.tl.b0.c32
    go_cut [30] from 18 to 30 (fun s9 wx => ∃ (A3 : Option Addr) (c3 : Nat), Lq w wx [(.slice A3 (zl M2) c3, M2.natAbs), (.slice A2 (zl N) c2, N.natAbs)] [] [] [(gt, 29, #[.bool (ng M2), .slice A3 (zl M2) c3, .int .i64 E2]), (w.heap.size + 2, 29, #[.bool (ng N), .slice A2 (zl N) c2, .int .i64 K]), (w.heap.size, 87, #[.int .i64 fac, .func (.func F) #[] #[], .int .i64 n]), (w.heap.size + 1, 29, #[.bool false, .slice none 0 0, .int .i64 0])])
    case first =>
      go_region_with (first | (go_at_call 164; (with_reducible refine (O1.out _ _ ?_ ).mono ?_); (· (refine isD_n (L.getN ?_); (repeat (first | (with_reducible exact List.mem_cons_self) | apply List.mem_cons_of_mem)))); rintro e9 wh ⟨vh, rfl, iq, be⟩; obtain ⟨Af, cf, Bf, df, rfl, _, _, _⟩ := iq.form; replace L := (L.step be).q iq; clear be iq; (try (have xx00 := L.b0.c30; have yy00 := L.b0.fr 0; have xx01 := L.b0.c31; have yy01 := L.b0.fr 1; have xx02 := L.b0.c32; have yy02 := L.b0.fr 2)); (try (have xx20 := L.tl.tl.b0.c30; have xx21 := L.tl.tl.b0.c31; have xx22 := L.tl.tl.b0.c32))) | ((with_reducible refine (O2.out _ ).mono ?_); rintro e9 wh ⟨vh, rfl, iq, be⟩; obtain ⟨Af, cf, Bf, df, rfl, _, _, _⟩ := iq.form; replace L := (L.step be).q iq; clear be iq; (try (have xx00 := L.b0.c30; have yy00 := L.b0.fr 0; have xx01 := L.b0.c31; have yy01 := L.b0.fr 1; have xx02 := L.b0.c32; have yy02 := L.b0.fr 2)); (try (have xx20 := L.tl.tl.b0.c30; have xx21 := L.tl.tl.b0.c31; have xx22 := L.tl.tl.b0.c32))) | (go_at_call 163; (with_reducible refine (O3.out _ _ _ ?_ ?_ ).mono ?_); (· (refine L.getQ ?_; (repeat (first | (with_reducible exact List.mem_cons_self) | apply List.mem_cons_of_mem)))); (· (refine L.getQ ?_; (repeat (first | (with_reducible exact List.mem_cons_self) | apply List.mem_cons_of_mem)))); rintro e9 wh ⟨vh, rfl, iq, be⟩; obtain ⟨Af, cf, Bf, df, rfl, _, _, _⟩ := iq.form; replace L := (L.step be).q iq; clear be iq; (try (have xx00 := L.b0.c30; have yy00 := L.b0.fr 0; have xx01 := L.b0.c31; have yy01 := L.b0.fr 1; have xx02 := L.b0.c32; have yy02 := L.b0.fr 2)); (try (have xx20 := L.tl.tl.b0.c30; have xx21 := L.tl.tl.b0.c31; have xx22 := L.tl.tl.b0.c32))) | (go_at_call 157; (with_reducible refine (O4.out _ _ ?_ ?_ ).mono ?_); (· (refine L.getQ ?_; (repeat (first | (with_reducible exact List.mem_cons_self) | apply List.mem_cons_of_mem)))); (· exact L.below); rintro e9 wh ⟨vh, rfl, id, be⟩; obtain ⟨A3, c3, rfl, _, in9⟩ := id.form; replace L := (L.step be).n in9; clear be id in9; (try (have xx00 := L.b0.c30; have yy00 := L.b0.fr 0; have xx01 := L.b0.c31; have yy01 := L.b0.fr 1; have xx02 := L.b0.c32; have yy02 := L.b0.fr 2)); (try (have xx20 := L.tl.tl.b0.c30; have xx21 := L.tl.tl.b0.c31; have xx22 := L.tl.tl.b0.c32))))
      all_goals
        have P := L.putD (by omega) (by first | (simp; done) | (simp; omega)) (ng M2) A3 (zl M2) c3 E2
        unfold put3 at P
        go_wp2_with fail
        go_meet
        exact ⟨A3, c3, P.subs (by simp) (by simp)⟩
    case rest =>
      clear L
      obtain ⟨A3, c3, L⟩ := hcut
      have hgt := L.b0.lt
      have cel00 := L.b0.c30
      have f00 := L.b0.fr 0
      have cel01 := L.b0.c31
      have f01 := L.b0.fr 1
      have cel02 := L.b0.c32
      have f02 := L.b0.fr 2
      (try go_wp2_with fail)
      refine (O5.out _ _ (isD_n (m := M2) (e := E2) (s := .slice A3 (zl M2) c3) (L.getN (by simp)))).mono ?_
      rintro e w12 ⟨rfl, be⟩
      clear cel00 f00 cel01 f01 cel02 f02
      replace L := L.step be
      clear be
      by_cases h0 : t2 = 0
      · have r6 : (sg9 == 0) = true := r5.trans (decide_eq_true h0)
        obtain rfl := HQ.out.2.1 h0
        have G4' := G4.out
        rw [HQ.out.1.1, HQ.out.1.2] at G4'
        have G5 := Lib.hid G4'
        clear G4' G4 r5 HQ HM2 O1 O2 O3 O4 O5 O6
        replace L := L.swap
        have cel00 := L.b0.c30
        have f00 := L.b0.fr 0
        have cel01 := L.b0.c31
        have f01 := L.b0.fr 1
        have cel02 := L.b0.c32
        have f02 := L.b0.fr 2
        have cel20 := L.tl.tl.b0.c30
        have cel21 := L.tl.tl.b0.c31
        have cel22 := L.tl.tl.b0.c32
        (try go_wp2_with fail)
        replace L := L.drew
        clear cel00 f00 cel01 f01 cel02 f02 cel20 cel21 cel22
        have cel00 := L.b0.c30
        have f00 := L.b0.fr 0
        have cel01 := L.b0.c31
        have f01 := L.b0.fr 1
        have cel02 := L.b0.c32
        have f02 := L.b0.fr 2
        have cel20 := L.tl.tl.b0.c30
        have cel21 := L.tl.tl.b0.c31
        have cel22 := L.tl.tl.b0.c32
        go_region_with (first | (go_at_call 116; (with_reducible refine (G3.out _ ?_ ).mono ?_); (· exact L.below); rintro e9 wh ⟨vh, rfl, id, be⟩; obtain ⟨A4, c4, rfl, _, in9⟩ := id.form; replace L := (L.step be).n in9; clear be id in9; (try (have xx00 := L.b0.c30; have yy00 := L.b0.fr 0; have xx01 := L.b0.c31; have yy01 := L.b0.fr 1; have xx02 := L.b0.c32; have yy02 := L.b0.fr 2)); (try (have xx20 := L.tl.tl.b0.c30; have xx21 := L.tl.tl.b0.c31; have xx22 := L.tl.tl.b0.c32))) | (go_at_call 52; (with_reducible refine (G5.out _ _ _ ?_ ?_ ?_ ).mono ?_); (· (refine isD_n (L.getN ?_); (repeat (first | (with_reducible exact List.mem_cons_self) | apply List.mem_cons_of_mem)))); (· (refine isD_n (L.getN ?_); (repeat (first | (with_reducible exact List.mem_cons_self) | apply List.mem_cons_of_mem)))); (· exact L.below); rintro e9 wh ⟨vh, rfl, id, be⟩; obtain ⟨A5, c5, rfl, _, in9⟩ := id.form; replace L := (L.step be).n in9; clear be id in9; (try (have xx00 := L.b0.c30; have yy00 := L.b0.fr 0; have xx01 := L.b0.c31; have yy01 := L.b0.fr 1; have xx02 := L.b0.c32; have yy02 := L.b0.fr 2)); (try (have xx20 := L.tl.tl.b0.c30; have xx21 := L.tl.tl.b0.c31; have xx22 := L.tl.tl.b0.c32))))
        all_goals
          clear cel00 f00 cel01 f01 cel02 f02 cel20 cel21 cel22
          have P := L.putD (by omega) (by first | (simp; done) | (simp; omega)) (ng Mr) A5 (zl Mr) c5 Er
          have p0 := P.b0.c30
          have p1 := P.b0.c31
          have p2 := P.b0.c32
          have q0 := P.tl.tl.tl.b0.c30
          have q1 := P.tl.tl.tl.b0.c31
          have q2 := P.tl.tl.tl.b0.c32
          have q3 := P.tl.tl.tl.b0.fr 0
          have q4 := P.tl.tl.tl.b0.fr 1
          have q5 := P.tl.tl.tl.b0.fr 2
          unfold put3 at p0 p1 p2 q0 q1 q2 q3 q4 q5 P
          go_wp2_with fail
          replace L := P.pull2.swap.pull2.pull2
          clear P p0 p1 p2 q0 q1 q2 q3 q4 q5
          have L4 : Lq w _ _ _ _ _ := L.subs (ns' := [(.slice A5 (zl Mr) c5, Mr.natAbs)]) (bs' := [(w.heap.size + 1, 29, #[.bool false, .slice none 0 0, .int .i64 0])]) (by simp) (by simp)
          clear L
          have L := L4
          have LP := L.putD (by omega) (by first | (simp; done) | (simp; omega)) (ng Mr) A5 (zl Mr) c5 (Er)
          have k0 := LP.b0.c30
          have k1 := LP.b0.c31
          have k2 := LP.b0.c32
          unfold put3 at k0 k1 k2
          exact bodyPost_ret (v := .agg #[.bool (ng Mr), .slice A5 (zl Mr) c5, .int .i64 (Er)]) (by simp [results, Tryz.results114, go_sem, k0, k1, k2]) rfl ⟨_, rfl, isD_n LP.hn, LP.below⟩
      · have r6 : (sg9 == 0) = false := r5.trans (decide_eq_false h0)
        have HI := Lib.hid (HQ.out.2.2 h0)
        clear r5 HQ O1 O2 O3 O4 O5 G3 G4
        replace L := L.swap
        have cel00 := L.b0.c30
        have f00 := L.b0.fr 0
        have cel01 := L.b0.c31
        have f01 := L.b0.fr 1
        have cel02 := L.b0.c32
        have f02 := L.b0.fr 2
        have cel10 := L.tl.b0.c30
        have cel11 := L.tl.b0.c31
        have cel12 := L.tl.b0.c32
        go_wp2_with fail
        refine (O6.out _ _ _ (isD_n (m := N) (e := K) (s := .slice A2 (zl N) c2) (L.getN (by simp))) (isD_n (m := M2) (e := E2) (s := .slice A3 (zl M2) c3) (L.getN (by simp))) L.below).mono ?_
        rintro e w13 ⟨vv, rfl, id, be⟩
        clear cel00 f00 cel01 f01 cel02 f02 cel10 cel11 cel12
        obtain ⟨A6, c6, rfl, _, in9⟩ := id.form
        replace L := (L.step be).n in9
        clear be id in9
        have cel00 := L.b0.c30
        have f00 := L.b0.fr 0
        have cel01 := L.b0.c31
        have f01 := L.b0.fr 1
        have cel02 := L.b0.c32
        have f02 := L.b0.fr 2
        replace L := L.putD (by omega) (by first | (simp; done) | (simp; omega)) (ng N2) A6 (zl N2) c6 K2
        unfold put3 at L
        go_wp2_with fail
        go_roundw
        case rel => exact ⟨g, k + 1, t2, s2, M2, E2, N2, K2, A3, A6, c3, c6, by go_num, L.subs (by simp) (by simp), Lib.hid ⟨HI.out, HM2.out⟩⟩
        case measure => simp [intOf]; omega

end Go.Proofs.YtfnklkdbieikeaaGreatDoor
