/- Joined: CpE, CoA, RefCoK (what the law leans on). -/
import Derived.Test.YtfnklkdbieikeaaGreatDoorBaseJ
import Derived.Test.YtfnklkdbieikeaaGreatDoorBaseM
import Derived.Test.YtfnklkdbieikeaaGreatDoorBaseV
import Derived.Test.YtfnklkdbieikeaaGreatDoorRefGrB
import Derived.Test.YtfnklkdbieikeaaGreatDoorBaseW
import Derived.Test.YtfnklkdbieikeaaGreatDoorJQ1
import Derived.Test.YtfnklkdbieikeaaGreatDoorJQ2
import Derived.Deep.DrawnRows
import Derived.Deep.RegionHeld3
namespace Go.Proofs.YtfnklkdbieikeaaGreatDoor
open Go.RowKit
set_option linter.unusedVariables false
set_option linter.unusedSimpArgs false
set_option maxRecDepth 100000
attribute [local go_sem ↓] Go.wp_at_zero Go.wp_at_succ

theorem plainP2 (a0 : Int) (F0 : Nat) (n0 : Int) (a1 : Int) (F1 : Nat) (n1 : Int) : Plain #[.int .i64 a0, .func (.func F0) #[] #[], .int .i64 n0, .int .i64 a1, .func (.func F1) #[] #[], .int .i64 n1] := fun j x => by
  match j with
  | 0 => simp
  | 1 => simp
  | 2 => simp
  | 3 => simp
  | 4 => simp
  | 5 => simp
  | j + 6 => simp
theorem plainP3 (a0 : Int) (F0 : Nat) (n0 : Int) (a1 : Int) (F1 : Nat) (n1 : Int) (a2 : Int) (F2 : Nat) (n2 : Int) : Plain #[.int .i64 a0, .func (.func F0) #[] #[], .int .i64 n0, .int .i64 a1, .func (.func F1) #[] #[], .int .i64 n1, .int .i64 a2, .func (.func F2) #[] #[], .int .i64 n2] := fun j x => by
  match j with
  | 0 => simp
  | 1 => simp
  | 2 => simp
  | 3 => simp
  | 4 => simp
  | 5 => simp
  | 6 => simp
  | 7 => simp
  | 8 => simp
  | j + 9 => simp
theorem rowP_1 {w : World} {g : Nat} {a0 : Int} {F0 : Nat} {n0 : Int} (hv : Var w g 87 #[.int .i64 a0, .func (.func F0) #[] #[], .int .i64 n0]) : RowP w (.slice (some ⟨g, 0, none⟩) 1 1) [(a0, F0, n0)] := by
  refine ⟨g, 1, rfl, hv.lt, fun j x hx => ?_⟩
  match j with
  | 0 =>
    obtain rfl : (a0, F0, n0) = x := by simpa using hx
    exact ⟨hv.cell 0, hv.cell 1, hv.cell 2⟩
  | j + 1 => simp at hx
theorem rowP_2 {w : World} {g : Nat} {a0 : Int} {F0 : Nat} {n0 : Int} {a1 : Int} {F1 : Nat} {n1 : Int} (hv : Var w g 87 #[.int .i64 a0, .func (.func F0) #[] #[], .int .i64 n0, .int .i64 a1, .func (.func F1) #[] #[], .int .i64 n1]) : RowP w (.slice (some ⟨g, 0, none⟩) 2 2) [(a0, F0, n0), (a1, F1, n1)] := by
  refine ⟨g, 2, rfl, hv.lt, fun j x hx => ?_⟩
  match j with
  | 0 =>
    obtain rfl : (a0, F0, n0) = x := by simpa using hx
    exact ⟨hv.cell 0, hv.cell 1, hv.cell 2⟩
  | 1 =>
    obtain rfl : (a1, F1, n1) = x := by simpa using hx
    exact ⟨hv.cell 3, hv.cell 4, hv.cell 5⟩
  | j + 2 => simp at hx
theorem rowP_3 {w : World} {g : Nat} {a0 : Int} {F0 : Nat} {n0 : Int} {a1 : Int} {F1 : Nat} {n1 : Int} {a2 : Int} {F2 : Nat} {n2 : Int} (hv : Var w g 87 #[.int .i64 a0, .func (.func F0) #[] #[], .int .i64 n0, .int .i64 a1, .func (.func F1) #[] #[], .int .i64 n1, .int .i64 a2, .func (.func F2) #[] #[], .int .i64 n2]) : RowP w (.slice (some ⟨g, 0, none⟩) 3 3) [(a0, F0, n0), (a1, F1, n1), (a2, F2, n2)] := by
  refine ⟨g, 3, rfl, hv.lt, fun j x hx => ?_⟩
  match j with
  | 0 =>
    obtain rfl : (a0, F0, n0) = x := by simpa using hx
    exact ⟨hv.cell 0, hv.cell 1, hv.cell 2⟩
  | 1 =>
    obtain rfl : (a1, F1, n1) = x := by simpa using hx
    exact ⟨hv.cell 3, hv.cell 4, hv.cell 5⟩
  | 2 =>
    obtain rfl : (a2, F2, n2) = x := by simpa using hx
    exact ⟨hv.cell 6, hv.cell 7, hv.cell 8⟩
  | j + 3 => simp at hx
theorem pt1_some {c : Int} {p : Nat → Int × Int} {v : Nat} {T : Int} (h : pt1 c p v = some T) : ∃ S, smP p 600 0 (2 ^ v) 0 = some S ∧ T = S * c := by
  unfold pt1 at h
  split at h
  · cases h
  · next a ha => exact ⟨a, ha, (Option.some.inj h).symm⟩
theorem add2_some {x y : Option Int} {T : Int} (h : add2 x y = some T) : ∃ a b, x = some a ∧ y = some b ∧ T = a + b := by
  match x, y with
  | some a, some b => exact ⟨a, b, rfl, rfl, (Option.some.inj h).symm⟩
  | none, _ => cases h
  | some _, none => cases h
theorem pt_abs {c S : Int} {p : Nat → Int × Int} {v : Nat} (hg : GdP p) (hS : smP p 600 0 (2 ^ v) 0 = some S) (hc : AbP c 10) (hv : v ≤ 950) : AbP (S * c) 1600 := ((smP_abs hg 600 0 _ _ _ (sp_first hS)).mul hc).up (by omega)

set_option maxHeartbeats 4000000 in
theorem cpi_no (k : Int) (w : World) (hk : okW k = false) :
    Calls Tryz.prog 25 #[.int .i64 k] w (RetIE w 0 0 0 0 1) := by
  have g1 := fun A n c W => cencl_no k (.slice A n c) A n c W hk rfl
  have H1 := Lib.hid g1
  clear g1
  go_enter Tryz.func25, Tryz.ntmps25
  have L := ((Lq.mk0 w).varI (w.heap.size) (by simp) false none 0 0 0 false none 0 0 0)
  replace L := L.var (w.heap.size + 1) (by simp) 87 #[.int .i64 (16), .func (.func 62) #[] #[], .int .i64 5, .int .i64 (-4), .func (.func 62) #[] #[], .int .i64 239] (plainP2 _ _ _ _ _ _ )
  have p0 := L.b0.cell 0
  have p1 := L.b0.cell 1
  have p2 := L.b0.cell 2
  have p3 := L.b0.cell 3
  have p4 := L.b0.cell 4
  have p5 := L.b0.cell 5
  (try go_wp2_with fail)
  clear p0 p1 p2 p3 p4 p5
  refine (H1.out _ _ _ _).mono ?_
  rintro e w1 ⟨v2, rfl, ii, be⟩
  obtain ⟨A8, c8, B8, d8, rfl, ia, ib⟩ := ii.form
  replace L := (((L.step be).n ib).n ia).swap
  clear be ii ia ib
  have c00 := L.b0.c60
  have f00 := L.b0.fr 0
  have c01 := L.b0.c61
  have f01 := L.b0.fr 1
  have c02 := L.b0.c62
  have f02 := L.b0.fr 2
  have c03 := L.b0.c63
  have f03 := L.b0.fr 3
  have c04 := L.b0.c64
  have f04 := L.b0.fr 4
  have c05 := L.b0.c65
  have f05 := L.b0.fr 5
  go_wp2_with fail
  have LP := L.putI (by omega) (by first | (simp; done) | (simp; omega)) (ng 0) A8 (zl 0) c8 0 (ng 0) B8 (zl 0) d8 0
  have k0 := LP.b0.c60
  have k1 := LP.b0.c61
  have k2 := LP.b0.c62
  have k3 := LP.b0.c63
  have k4 := LP.b0.c64
  have k5 := LP.b0.c65
  unfold put6 at k0 k1 k2 k3 k4 k5
  exact bodyPost_ret (v := .tuple #[.agg #[.bool (ng 0), .slice A8 (zl 0) c8, .int .i64 0, .bool (ng 0), .slice B8 (zl 0) d8, .int .i64 0], .int .i64 1]) (by simp [results, Tryz.results25, go_sem, k0, k1, k2, k3, k4, k5]) rfl ⟨_, rfl, isI_n (LP.getN (by simp)) (LP.getN (by simp)), LP.below⟩
set_option maxHeartbeats 4000000 in
theorem cpi_yes (k : Nat) (T : Int) (w : World) (hk : k ≤ 900) (hT : Tab w) (hS : piT (k + 32) = some T) :
    Calls Tryz.prog 25 #[.int .i64 (k : Int)] w (RetIE w (mkM (loC T) (-(k : Int))) (mkE (loC T) (-(k : Int))) (mkM (hiC T) (-(k : Int))) (mkE (hiC T) (-(k : Int))) 0) := by
  unfold piT at hS
  obtain ⟨T0, T1, h0, h1, rfl⟩ := add2_some hS
  obtain ⟨S0, hS0, r0⟩ := pt1_some h0
  obtain ⟨S1, hS1, r1⟩ := pt1_some h1
  subst r0 r1
  have hen0 : ∀ args w, (callFunc 62 args).run Tryz.prog w = .ok (.enter 62 args) w := enters_of Tryz.func62 (by kernel_rfl) rfl
  have G0 : GdP (tnP 5 1) := tnP_good (by simp)
  have a0 : AbP (16) 10 := by unfold AbP; decide
  have u0 := fun W (hW : Below w.heap.size w W) => csum_any 62 hen0 (tnP 5 1) 5 (16) S0 (k + 32) W G0 hS0 a0 (by omega) (hT.mono hW) (fun j W hj => carc_any 5 j W (by omega) (by omega) hj)
  have b0 := pt_abs G0 hS0 a0 (by omega)
  have hen1 : ∀ args w, (callFunc 62 args).run Tryz.prog w = .ok (.enter 62 args) w := enters_of Tryz.func62 (by kernel_rfl) rfl
  have G1 : GdP (tnP 239 1) := tnP_good (by simp)
  have a1 : AbP (-4) 10 := by unfold AbP; decide
  have u1 := fun W (hW : Below w.heap.size w W) => csum_any 62 hen1 (tnP 239 1) 239 (-4) S1 (k + 32) W G1 hS1 a1 (by omega) (hT.mono hW) (fun j W hj => carc_any 239 j W (by omega) (by omega) hj)
  have b1 := pt_abs G1 hS1 a1 (by omega)
  have g1 := fun v W (hl : RowP W v [((16 : Int), 62, (5 : Int)), ((-4 : Int), 62, (239 : Int))]) (hW : Below w.heap.size w W) => cencl_yes k [((16 : Int), 62, (5 : Int)), ((-4 : Int), 62, (239 : Int))] [S0 * (16), S1 * (-4)] (S0 * (16) + S1 * (-4)) v W hk hl rfl (by simp) (hT.mono hW) (fun c hc => by
    simp only [List.mem_cons, List.not_mem_nil, or_false] at hc
    rcases hc with rfl | rfl <;> assumption) (by unfold ttl; unfold ttl; unfold ttl; rw [Int.zero_add]) (fun j x c W2 hx hc hW2 => by
    have hW3 := hW.trans (hW2.mono hW.size)
    match j with
    | 0 =>
      obtain rfl : ((16 : Int), 62, (5 : Int)) = x := by simpa using hx
      obtain rfl : S0 * (16) = c := by simpa using hc
      exact u0 W2 hW3
    | 1 =>
      obtain rfl : ((-4 : Int), 62, (239 : Int)) = x := by simpa using hx
      obtain rfl : S1 * (-4) = c := by simpa using hc
      exact u1 W2 hW3
    | j + 2 => simp at hx)
  generalize S0 * (16) + S1 * (-4) = T at *
  clear hen0 G0 a0 u0 b0 hS0 hen1 G1 a1 u1 b1 hS1 hS h0 h1
  generalize mkM (loC T) (-(k : Int)) = Ma at *
  generalize mkE (loC T) (-(k : Int)) = Ea at *
  generalize mkM (hiC T) (-(k : Int)) = Na at *
  generalize mkE (hiC T) (-(k : Int)) = Fa at *
  have H1 := Lib.hid g1
  clear g1
  go_enter Tryz.func25, Tryz.ntmps25
  have L := ((Lq.mk0 w).varI (w.heap.size) (by simp) false none 0 0 0 false none 0 0 0)
  replace L := L.var (w.heap.size + 1) (by simp) 87 #[.int .i64 (16), .func (.func 62) #[] #[], .int .i64 5, .int .i64 (-4), .func (.func 62) #[] #[], .int .i64 239] (plainP2 _ _ _ _ _ _ )
  have p0 := L.b0.cell 0
  have p1 := L.b0.cell 1
  have p2 := L.b0.cell 2
  have p3 := L.b0.cell 3
  have p4 := L.b0.cell 4
  have p5 := L.b0.cell 5
  (try go_wp2_with fail)
  clear p0 p1 p2 p3 p4 p5
  refine (H1.out _ _ (rowP_2 L.b0) L.below).mono ?_
  rintro e w1 ⟨v2, rfl, ii, be⟩
  obtain ⟨A8, c8, B8, d8, rfl, ia, ib⟩ := ii.form
  replace L := (((L.step be).n ib).n ia).swap
  clear be ii ia ib
  have c00 := L.b0.c60
  have f00 := L.b0.fr 0
  have c01 := L.b0.c61
  have f01 := L.b0.fr 1
  have c02 := L.b0.c62
  have f02 := L.b0.fr 2
  have c03 := L.b0.c63
  have f03 := L.b0.fr 3
  have c04 := L.b0.c64
  have f04 := L.b0.fr 4
  have c05 := L.b0.c65
  have f05 := L.b0.fr 5
  go_wp2_with fail
  have LP := L.putI (by omega) (by first | (simp; done) | (simp; omega)) (ng Ma) A8 (zl Ma) c8 Ea (ng Na) B8 (zl Na) d8 Fa
  have k0 := LP.b0.c60
  have k1 := LP.b0.c61
  have k2 := LP.b0.c62
  have k3 := LP.b0.c63
  have k4 := LP.b0.c64
  have k5 := LP.b0.c65
  unfold put6 at k0 k1 k2 k3 k4 k5
  exact bodyPost_ret (v := .tuple #[.agg #[.bool (ng Ma), .slice A8 (zl Ma) c8, .int .i64 Ea, .bool (ng Na), .slice B8 (zl Na) d8, .int .i64 Fa], .int .i64 0]) (by simp [results, Tryz.results25, go_sem, k0, k1, k2, k3, k4, k5]) rfl ⟨_, rfl, isI_n (LP.getN (by simp)) (LP.getN (by simp)), LP.below⟩
set_option maxHeartbeats 4000000 in
theorem cex_yes (k : Nat) (T : Int) (w : World) (hk : k ≤ 900) (hT : Tab w) (hS : exT (k + 32) = some T) :
    Calls Tryz.prog 26 #[.int .i64 (k : Int)] w (RetIE w (mkM (loC T) (-(k : Int))) (mkE (loC T) (-(k : Int))) (mkM (hiC T) (-(k : Int))) (mkE (hiC T) (-(k : Int))) 0) := by
  unfold exT at hS
  obtain ⟨S0, hS0, r0⟩ := pt1_some hS
  subst r0
  have hen0 : ∀ args w, (callFunc 63 args).run Tryz.prog w = .ok (.enter 63 args) w := enters_of Tryz.func63 (by kernel_rfl) rfl
  have G0 : GdP (exP 1) := exP_good
  have a0 : AbP (1) 10 := by unfold AbP; decide
  have u0 := fun W (hW : Below w.heap.size w W) => csum_any 63 hen0 (exP 1) 1 (1) S0 (k + 32) W G0 hS0 a0 (by omega) (hT.mono hW) (fun j W hj => cexp_any j W hj)
  have b0 := pt_abs G0 hS0 a0 (by omega)
  have g1 := fun v W (hl : RowP W v [((1 : Int), 63, (1 : Int))]) (hW : Below w.heap.size w W) => cencl_yes k [((1 : Int), 63, (1 : Int))] [S0 * (1)] (S0 * (1)) v W hk hl rfl (by simp) (hT.mono hW) (fun c hc => by
    simp only [List.mem_cons, List.not_mem_nil, or_false] at hc
    subst hc <;> assumption) (by unfold ttl; unfold ttl; rw [Int.zero_add]) (fun j x c W2 hx hc hW2 => by
    have hW3 := hW.trans (hW2.mono hW.size)
    match j with
    | 0 =>
      obtain rfl : ((1 : Int), 63, (1 : Int)) = x := by simpa using hx
      obtain rfl : S0 * (1) = c := by simpa using hc
      exact u0 W2 hW3
    | j + 1 => simp at hx)
  generalize S0 * (1) = T at *
  clear hen0 G0 a0 u0 b0 hS0 hS
  generalize mkM (loC T) (-(k : Int)) = Ma at *
  generalize mkE (loC T) (-(k : Int)) = Ea at *
  generalize mkM (hiC T) (-(k : Int)) = Na at *
  generalize mkE (hiC T) (-(k : Int)) = Fa at *
  have H1 := Lib.hid g1
  clear g1
  go_enter Tryz.func26, Tryz.ntmps26
  have L := ((Lq.mk0 w).varI (w.heap.size) (by simp) false none 0 0 0 false none 0 0 0)
  replace L := L.var (w.heap.size + 1) (by simp) 87 #[.int .i64 (1), .func (.func 63) #[] #[], .int .i64 1] (plainP _ _ _ )
  have p0 := L.b0.cell 0
  have p1 := L.b0.cell 1
  have p2 := L.b0.cell 2
  (try go_wp2_with fail)
  clear p0 p1 p2
  refine (H1.out _ _ (rowP_1 L.b0) L.below).mono ?_
  rintro e w1 ⟨v2, rfl, ii, be⟩
  obtain ⟨A8, c8, B8, d8, rfl, ia, ib⟩ := ii.form
  replace L := (((L.step be).n ib).n ia).swap
  clear be ii ia ib
  have c00 := L.b0.c60
  have f00 := L.b0.fr 0
  have c01 := L.b0.c61
  have f01 := L.b0.fr 1
  have c02 := L.b0.c62
  have f02 := L.b0.fr 2
  have c03 := L.b0.c63
  have f03 := L.b0.fr 3
  have c04 := L.b0.c64
  have f04 := L.b0.fr 4
  have c05 := L.b0.c65
  have f05 := L.b0.fr 5
  go_wp2_with fail
  have LP := L.putI (by omega) (by first | (simp; done) | (simp; omega)) (ng Ma) A8 (zl Ma) c8 Ea (ng Na) B8 (zl Na) d8 Fa
  have k0 := LP.b0.c60
  have k1 := LP.b0.c61
  have k2 := LP.b0.c62
  have k3 := LP.b0.c63
  have k4 := LP.b0.c64
  have k5 := LP.b0.c65
  unfold put6 at k0 k1 k2 k3 k4 k5
  exact bodyPost_ret (v := .tuple #[.agg #[.bool (ng Ma), .slice A8 (zl Ma) c8, .int .i64 Ea, .bool (ng Na), .slice B8 (zl Na) d8, .int .i64 Fa], .int .i64 0]) (by simp [results, Tryz.results26, go_sem, k0, k1, k2, k3, k4, k5]) rfl ⟨_, rfl, isI_n (LP.getN (by simp)) (LP.getN (by simp)), LP.below⟩
set_option maxHeartbeats 4000000 in
theorem cln_yes (k : Nat) (T : Int) (w : World) (hk : k ≤ 900) (hT : Tab w) (hS : lnT (k + 32) = some T) :
    Calls Tryz.prog 27 #[.int .i64 (k : Int)] w (RetIE w (mkM (loC T) (-(k : Int))) (mkE (loC T) (-(k : Int))) (mkM (hiC T) (-(k : Int))) (mkE (hiC T) (-(k : Int))) 0) := by
  unfold lnT at hS
  obtain ⟨T9, T2, h9, h2, rfl⟩ := add2_some hS
  obtain ⟨T0, T1, h0, h1, rfl⟩ := add2_some h9
  obtain ⟨S0, hS0, r0⟩ := pt1_some h0
  obtain ⟨S1, hS1, r1⟩ := pt1_some h1
  obtain ⟨S2, hS2, r2⟩ := pt1_some h2
  subst r0 r1 r2
  have hen0 : ∀ args w, (callFunc 64 args).run Tryz.prog w = .ok (.enter 64 args) w := enters_of Tryz.func64 (by kernel_rfl) rfl
  have G0 : GdP (tnP 26 (-1)) := tnP_good (by simp)
  have a0 : AbP (18) 10 := by unfold AbP; decide
  have u0 := fun W (hW : Below w.heap.size w W) => csum_any 64 hen0 (tnP 26 (-1)) 26 (18) S0 (k + 32) W G0 hS0 a0 (by omega) (hT.mono hW) (fun j W hj => carea_any 26 j W (by omega) (by omega) hj)
  have b0 := pt_abs G0 hS0 a0 (by omega)
  have hen1 : ∀ args w, (callFunc 64 args).run Tryz.prog w = .ok (.enter 64 args) w := enters_of Tryz.func64 (by kernel_rfl) rfl
  have G1 : GdP (tnP 4801 (-1)) := tnP_good (by simp)
  have a1 : AbP (-2) 10 := by unfold AbP; decide
  have u1 := fun W (hW : Below w.heap.size w W) => csum_any 64 hen1 (tnP 4801 (-1)) 4801 (-2) S1 (k + 32) W G1 hS1 a1 (by omega) (hT.mono hW) (fun j W hj => carea_any 4801 j W (by omega) (by omega) hj)
  have b1 := pt_abs G1 hS1 a1 (by omega)
  have hen2 : ∀ args w, (callFunc 64 args).run Tryz.prog w = .ok (.enter 64 args) w := enters_of Tryz.func64 (by kernel_rfl) rfl
  have G2 : GdP (tnP 8749 (-1)) := tnP_good (by simp)
  have a2 : AbP (8) 10 := by unfold AbP; decide
  have u2 := fun W (hW : Below w.heap.size w W) => csum_any 64 hen2 (tnP 8749 (-1)) 8749 (8) S2 (k + 32) W G2 hS2 a2 (by omega) (hT.mono hW) (fun j W hj => carea_any 8749 j W (by omega) (by omega) hj)
  have b2 := pt_abs G2 hS2 a2 (by omega)
  have g1 := fun v W (hl : RowP W v [((18 : Int), 64, (26 : Int)), ((-2 : Int), 64, (4801 : Int)), ((8 : Int), 64, (8749 : Int))]) (hW : Below w.heap.size w W) => cencl_yes k [((18 : Int), 64, (26 : Int)), ((-2 : Int), 64, (4801 : Int)), ((8 : Int), 64, (8749 : Int))] [S0 * (18), S1 * (-2), S2 * (8)] (S0 * (18) + S1 * (-2) + S2 * (8)) v W hk hl rfl (by simp) (hT.mono hW) (fun c hc => by
    simp only [List.mem_cons, List.not_mem_nil, or_false] at hc
    rcases hc with rfl | rfl | rfl <;> assumption) (by unfold ttl; unfold ttl; unfold ttl; unfold ttl; rw [Int.zero_add]) (fun j x c W2 hx hc hW2 => by
    have hW3 := hW.trans (hW2.mono hW.size)
    match j with
    | 0 =>
      obtain rfl : ((18 : Int), 64, (26 : Int)) = x := by simpa using hx
      obtain rfl : S0 * (18) = c := by simpa using hc
      exact u0 W2 hW3
    | 1 =>
      obtain rfl : ((-2 : Int), 64, (4801 : Int)) = x := by simpa using hx
      obtain rfl : S1 * (-2) = c := by simpa using hc
      exact u1 W2 hW3
    | 2 =>
      obtain rfl : ((8 : Int), 64, (8749 : Int)) = x := by simpa using hx
      obtain rfl : S2 * (8) = c := by simpa using hc
      exact u2 W2 hW3
    | j + 3 => simp at hx)
  generalize S0 * (18) + S1 * (-2) + S2 * (8) = T at *
  clear hen0 G0 a0 u0 b0 hS0 hen1 G1 a1 u1 b1 hS1 hen2 G2 a2 u2 b2 hS2 hS h0 h1 h2 h9
  generalize mkM (loC T) (-(k : Int)) = Ma at *
  generalize mkE (loC T) (-(k : Int)) = Ea at *
  generalize mkM (hiC T) (-(k : Int)) = Na at *
  generalize mkE (hiC T) (-(k : Int)) = Fa at *
  have H1 := Lib.hid g1
  clear g1
  go_enter Tryz.func27, Tryz.ntmps27
  have L := ((Lq.mk0 w).varI (w.heap.size) (by simp) false none 0 0 0 false none 0 0 0)
  replace L := L.var (w.heap.size + 1) (by simp) 87 #[.int .i64 (18), .func (.func 64) #[] #[], .int .i64 26, .int .i64 (-2), .func (.func 64) #[] #[], .int .i64 4801, .int .i64 (8), .func (.func 64) #[] #[], .int .i64 8749] (plainP3 _ _ _ _ _ _ _ _ _ )
  have p0 := L.b0.cell 0
  have p1 := L.b0.cell 1
  have p2 := L.b0.cell 2
  have p3 := L.b0.cell 3
  have p4 := L.b0.cell 4
  have p5 := L.b0.cell 5
  have p6 := L.b0.cell 6
  have p7 := L.b0.cell 7
  have p8 := L.b0.cell 8
  (try go_wp2_with fail)
  clear p0 p1 p2 p3 p4 p5 p6 p7 p8
  refine (H1.out _ _ (rowP_3 L.b0) L.below).mono ?_
  rintro e w1 ⟨v2, rfl, ii, be⟩
  obtain ⟨A8, c8, B8, d8, rfl, ia, ib⟩ := ii.form
  replace L := (((L.step be).n ib).n ia).swap
  clear be ii ia ib
  have c00 := L.b0.c60
  have f00 := L.b0.fr 0
  have c01 := L.b0.c61
  have f01 := L.b0.fr 1
  have c02 := L.b0.c62
  have f02 := L.b0.fr 2
  have c03 := L.b0.c63
  have f03 := L.b0.fr 3
  have c04 := L.b0.c64
  have f04 := L.b0.fr 4
  have c05 := L.b0.c65
  have f05 := L.b0.fr 5
  go_wp2_with fail
  have LP := L.putI (by omega) (by first | (simp; done) | (simp; omega)) (ng Ma) A8 (zl Ma) c8 Ea (ng Na) B8 (zl Na) d8 Fa
  have k0 := LP.b0.c60
  have k1 := LP.b0.c61
  have k2 := LP.b0.c62
  have k3 := LP.b0.c63
  have k4 := LP.b0.c64
  have k5 := LP.b0.c65
  unfold put6 at k0 k1 k2 k3 k4 k5
  exact bodyPost_ret (v := .tuple #[.agg #[.bool (ng Ma), .slice A8 (zl Ma) c8, .int .i64 Ea, .bool (ng Na), .slice B8 (zl Na) d8, .int .i64 Fa], .int .i64 0]) (by simp [results, Tryz.results27, go_sem, k0, k1, k2, k3, k4, k5]) rfl ⟨_, rfl, isI_n (LP.getN (by simp)) (LP.getN (by simp)), LP.below⟩

/-- A value stands for the span from a to b. -/
def IsS (w : World) (v : Value) (a b : Int) : Prop := ∃ s t, v = .agg #[.bool (ng a), s, .bool (ng b), t] ∧ IsN w s a.natAbs ∧ IsN w t b.natAbs
theorem IsS.mono {w w' : World} {v : Value} {a b : Int} (h : IsS w v a b) (hb : Below w.heap.size w w') : IsS w' v a b := by
  obtain ⟨s, t, r, hs, ht⟩ := h
  exact ⟨s, t, r, hs.mono hb, ht.mono hb⟩
theorem IsS.form {w : World} {v : Value} {a b : Int} (h : IsS w v a b) : ∃ A c B d, v = .agg #[.bool (ng a), .slice A (zl a) c, .bool (ng b), .slice B (zl b) d] ∧ IsN w (.slice A (zl a) c) a.natAbs ∧ IsN w (.slice B (zl b) d) b.natAbs := by
  obtain ⟨s, t, r, hs, ht⟩ := h
  obtain ⟨A, c, e1⟩ := hs.form
  obtain ⟨B, d, e2⟩ := ht.form
  subst e1 e2
  exact ⟨A, c, B, d, r, hs, ht⟩
section
variable {w0 w : World} {ns : List (Value × Nat)} {zs : List (Value × Int)} {qs : List (Value × Int × Nat)} {bs : List (Nat × TypeId × Array Value)}
end
theorem Var.c40 {w : World} {g : Nat} {ty : TypeId} {x0 x1 x2 x3 : Value} (h : Var w g ty #[x0, x1, x2, x3]) : w.cell? ⟨g, 0, none⟩ = some x0 := h.cell 0
theorem Var.c41 {w : World} {g : Nat} {ty : TypeId} {x0 x1 x2 x3 : Value} (h : Var w g ty #[x0, x1, x2, x3]) : w.cell? ⟨g, 1, none⟩ = some x1 := h.cell 1
theorem Var.c42 {w : World} {g : Nat} {ty : TypeId} {x0 x1 x2 x3 : Value} (h : Var w g ty #[x0, x1, x2, x3]) : w.cell? ⟨g, 2, none⟩ = some x2 := h.cell 2
theorem mk_fits5 {m e : Int} (h : zl m ≤ 1900) (h1 : -60000 ≤ e) (h2 : e ≤ 4000) : mkR m e = 0 := by
  unfold mkR
  rw [if_neg (by omega)]
  by_cases h0 : m = 0
  · rw [if_pos h0]
  · rw [if_neg h0]
    have ht := tz_le8 m.natAbs (by omega)
    have e1 : zl m = len m.natAbs := rfl
    have hb : blen (oddM m).natAbs ≤ 65536 := by
      have := blen_le_len (oddM m).natAbs
      have h3 := zl_odd m
      have e2 : zl (oddM m) = len (oddM m).natAbs := rfl
      omega
    have ho : bitB (oddM m).natAbs 0 = true := by
      obtain ⟨k, hk⟩ := tz_form (x := m.natAbs) (by omega)
      have hd : m.natAbs / 2 ^ tz m.natAbs = 2 * k + 1 := by
        have := Nat.mul_div_cancel_left (2 * k + 1) (Nat.pow_pos (n := tz m.natAbs) (show 0 < 2 by omega))
        rwa [← hk] at this
      unfold bitB
      rw [oddM_abs, hd, Nat.pow_zero, Nat.div_one]
      exact decide_eq_true (by omega)
    have hf : fits8 (oddM m) (oddE m e) = true := by
      unfold fits8 oddE
      rw [decide_eq_true hb, decide_eq_true (by omega), decide_eq_true (by omega), ho]
      rfl
    rw [hf]
    rfl
/-- The width of an interval, as Width returns it; which intervals are tight. -/
def wdM (m e n f : Int) : Int := mkM (addS n f (-m) e) (min f e)
def wdE (m e n f : Int) : Int := mkE (addS n f (-m) e) (min f e)
def wdR (m e n f : Int) : Int := mkR (addS n f (-m) e) (min f e)
def tgtB (m e n f k : Int) : Bool := decide (0 ≤ k) && (decide (k ≤ 4224) && (decide (dcm m e n f ≤ 0) && (onB m e k && (onB n f k && (decide (wdR m e n f = 0) && decide (dcm (wdM m e n f) (wdE m e n f) (gM 1 (k - 1)) (gE 1 (k - 1)) ≤ 0))))))

set_option maxHeartbeats 8000000 in
theorem s13tight_any (m e n f k : Int) (vx : Value) (w : World) (hx : IsI w vx m e n f) (lm : zl m ≤ 1000) (ln : zl n ≤ 1000) (he : -20000 ≤ e ∧ e ≤ 20000) (hf : -20000 ≤ f ∧ f ≤ 20000) (hv : Dv m e) (hv2 : Dv n f) (hk1 : -9223372036854775808 ≤ k) (hk2 : k ≤ 9223372036854775807) :
    Calls Tryz.prog 12 #[vx, .int .i64 k] w (RetB w (tgtB m e n f k)) := by
  obtain ⟨A, c, B, d, rfl, hn1, hn2⟩ := hx.form
  have L0 := ((Lq.mk0 w).n hn2).n hn1
  have h0 := fun v W h => r10valid_any m e n f v W h lm ln (by omega) (by omega) hv hv2
  have h1 := fun v W h => ron9_any m e k v W h (by omega) (by omega)
  have h2 := fun v W h => ron9_any n f k v W h (by omega) (by omega)
  have h3 := fun v W h => r10width_any m e n f v W h lm ln he hf
  have zA := zl_addS n f (-m) e 20000 (by omega) (by omega)
  have zN := zl_neg m
  have zM := zl_mk (addS n f (-m) e) (min f e)
  have hr : wdR m e n f = 0 → zl (wdM m e n f) ≤ 10000 ∧ -100000 ≤ wdE m e n f ∧ wdE m e n f ≤ 100000 := fun h => by
    have := dv_bound (mk_ok h)
    unfold wdM wdE
    omega
  rw [show mkM (addS n f (-m) e) (min f e) = wdM m e n f from rfl, show mkE (addS n f (-m) e) (min f e) = wdE m e n f from rfl, show mkR (addS n f (-m) e) (min f e) = wdR m e n f from rfl] at h3
  have hu : 0 ≤ k → k ≤ 4224 → zl (gM 1 (k - 1)) ≤ 10000 ∧ -100000 ≤ gE 1 (k - 1) ∧ gE 1 (k - 1) ≤ 100000 := fun a b => by
    have hp : permB (k - 1) = true := by
      unfold permB
      rw [decide_eq_true (show -2048 ≤ k - 1 by omega), decide_eq_true (show k - 1 ≤ 8192 by omega)]
      rfl
    obtain ⟨e1, e2, _⟩ := g_yes hp 1
    rw [e1, e2]
    have z1 : zl 1 ≤ 1 := len_le1 (by omega)
    have z2 := zl_mk 1 (-(k - 1))
    have hf : mkR 1 (-(k - 1)) = 0 := mk_fits5 (by omega) (by omega) (by omega)
    have := dv_bound (mk_ok hf)
    omega
  have h5 := fun (a : 0 ≤ k) (b : k ≤ 4224) (r : wdR m e n f = 0) v u W g h => rcmp8_any (wdM m e n f) (wdE m e n f) (gM 1 (k - 1)) (gE 1 (k - 1)) v u W g h (Nat.le_trans (hr r).1 (by omega)) (Nat.le_trans (hu a b).1 (by omega)) (hr r).2 (hu a b).2
  have h4 := fun (a : 0 ≤ k) (b : k ≤ 4224) W => runit9_any (k - 1) W (by omega) (by omega)
  have HT := Lib.hid (rfl : tgtB m e n f k = tgtB m e n f k)
  generalize hT : tgtB m e n f k = T at HT ⊢
  unfold tgtB at hT
  rw [show dcm (wdM m e n f) (wdE m e n f) (gM 1 (k - 1)) (gE 1 (k - 1)) = cmpI (wdM m e n f * 2 ^ (wdE m e n f - min (wdE m e n f) (gE 1 (k - 1))).toNat) (gM 1 (k - 1) * 2 ^ (gE 1 (k - 1) - min (wdE m e n f) (gE 1 (k - 1))).toNat) from rfl] at hT
  generalize cmpI (wdM m e n f * 2 ^ (wdE m e n f - min (wdE m e n f) (gE 1 (k - 1))).toNat) (gM 1 (k - 1) * 2 ^ (gE 1 (k - 1) - min (wdE m e n f) (gE 1 (k - 1))).toNat) = x at *
  generalize wdM m e n f = M at *
  generalize wdE m e n f = E at *
  generalize wdR m e n f = R at *
  generalize gM 1 (k - 1) = M2 at *
  generalize gE 1 (k - 1) = E2 at *
  generalize gR 1 (k - 1) = R2 at *
  generalize decide (dcm m e n f ≤ 0) = bv at *
  generalize onB m e k = bl at *
  generalize onB n f k = bh at *
  have H0 := Lib.hid h0
  have H1 := Lib.hid h1
  have H2 := Lib.hid h2
  have H3 := Lib.hid h3
  have H4 := Lib.hid h4
  have H5 := Lib.hid h5
  clear h0 h1 h2 h3 h4 h5 zA zN zM hr hu HT lm ln he hf hv hv2 hn1 hn2
  obtain ⟨z, hz⟩ : ∃ z, decide (x ≤ 0) = z := ⟨_, rfl⟩
  rw [hz] at hT
  have HT := Lib.hid hT
  clear hT
  cases b0 : decide (0 ≤ k)
  · rw [b0] at HT
    have hb0 : k < 0 := by have := of_decide_eq_false b0; omega
    have q0 : decide (k < 0) = true := decide_eq_true hb0
    have hT := HT.out
    simp only [Bool.true_and, Bool.false_and] at hT
    subst hT
    
    go_enter Tryz.func12, Tryz.ntmps12
    go_wp2_with fail
    have L := (L0.varI (w.heap.size) (by simp) (ng m) A (zl m) c e (ng n) B (zl n) d f)
    have c00 := L.b0.c60
    have c01 := L.b0.c61
    have c02 := L.b0.c62
    have c03 := L.b0.c63
    have c04 := L.b0.c64
    have c05 := L.b0.c65
    (try go_wp2_with fail)
    (try go_ret)
    exact ⟨rfl, L.below⟩
  · rw [b0] at HT
    have hb0 : 0 ≤ k := of_decide_eq_true b0
    have q0 : decide (k < 0) = false := decide_eq_false (by omega)
    have w1 : IntKind.i64.wrap (k - 1) = k - 1 := by rw [IntKind.wrap_i64]; omega
    cases b1 : decide (k ≤ 4224)
    · rw [b1] at HT
      have hb1 : 4224 < k := by have := of_decide_eq_false b1; omega
      have q1 : decide (4224 < k) = true := decide_eq_true hb1
      have hT := HT.out
      simp only [Bool.true_and, Bool.false_and] at hT
      subst hT
      
      go_enter Tryz.func12, Tryz.ntmps12
      go_wp2_with fail
      have L := (L0.varI (w.heap.size) (by simp) (ng m) A (zl m) c e (ng n) B (zl n) d f)
      have c00 := L.b0.c60
      have c01 := L.b0.c61
      have c02 := L.b0.c62
      have c03 := L.b0.c63
      have c04 := L.b0.c64
      have c05 := L.b0.c65
      (try go_wp2_with fail)
      (try go_ret)
      exact ⟨rfl, L.below⟩
    · rw [b1] at HT
      have hb1 : k ≤ 4224 := of_decide_eq_true b1
      have q1 : decide (4224 < k) = false := decide_eq_false (by omega)
      cases bv
      · skip
        have hT := HT.out
        simp only [Bool.true_and, Bool.false_and] at hT
        subst hT
        
        go_enter Tryz.func12, Tryz.ntmps12
        go_wp2_with fail
        have L := (L0.varI (w.heap.size) (by simp) (ng m) A (zl m) c e (ng n) B (zl n) d f)
        have c00 := L.b0.c60
        have c01 := L.b0.c61
        have c02 := L.b0.c62
        have c03 := L.b0.c63
        have c04 := L.b0.c64
        have c05 := L.b0.c65
        (try go_wp2_with fail)
        refine (H0.out _ _ (isI_n (m := m) (e := e) (n := n) (f := f) (L.getN (by simp)) (L.getN (by simp)))).mono ?_
        rintro e w1 ⟨rfl, be⟩
        clear c00 c01 c02 c03 c04 c05
        replace L := L.step be
        clear be
        have c00 := L.b0.c60
        have c01 := L.b0.c61
        have c02 := L.b0.c62
        have c03 := L.b0.c63
        have c04 := L.b0.c64
        have c05 := L.b0.c65
        (try go_wp2_with fail)
        (try go_ret)
        exact ⟨rfl, L.below⟩
      · cases bl
        · skip
          have hT := HT.out
          simp only [Bool.true_and, Bool.false_and] at hT
          subst hT
          
          go_enter Tryz.func12, Tryz.ntmps12
          go_wp2_with fail
          have L := (L0.varI (w.heap.size) (by simp) (ng m) A (zl m) c e (ng n) B (zl n) d f)
          have c00 := L.b0.c60
          have c01 := L.b0.c61
          have c02 := L.b0.c62
          have c03 := L.b0.c63
          have c04 := L.b0.c64
          have c05 := L.b0.c65
          (try go_wp2_with fail)
          refine (H0.out _ _ (isI_n (m := m) (e := e) (n := n) (f := f) (L.getN (by simp)) (L.getN (by simp)))).mono ?_
          rintro e w1 ⟨rfl, be⟩
          clear c00 c01 c02 c03 c04 c05
          replace L := L.step be
          clear be
          have c00 := L.b0.c60
          have c01 := L.b0.c61
          have c02 := L.b0.c62
          have c03 := L.b0.c63
          have c04 := L.b0.c64
          have c05 := L.b0.c65
          (try go_wp2_with fail)
          refine (H1.out _ _ (isD_n (m := m) (e := e) (s := .slice A (zl m) c) (L.getN (by simp)))).mono ?_
          rintro e w2 ⟨rfl, be⟩
          clear c00 c01 c02 c03 c04 c05
          replace L := L.step be
          clear be
          have c00 := L.b0.c60
          have c01 := L.b0.c61
          have c02 := L.b0.c62
          have c03 := L.b0.c63
          have c04 := L.b0.c64
          have c05 := L.b0.c65
          (try go_wp2_with fail)
          (try go_ret)
          exact ⟨rfl, L.below⟩
        · cases bh
          · skip
            have hT := HT.out
            simp only [Bool.true_and, Bool.false_and] at hT
            subst hT
            
            go_enter Tryz.func12, Tryz.ntmps12
            go_wp2_with fail
            have L := (L0.varI (w.heap.size) (by simp) (ng m) A (zl m) c e (ng n) B (zl n) d f)
            have c00 := L.b0.c60
            have c01 := L.b0.c61
            have c02 := L.b0.c62
            have c03 := L.b0.c63
            have c04 := L.b0.c64
            have c05 := L.b0.c65
            (try go_wp2_with fail)
            refine (H0.out _ _ (isI_n (m := m) (e := e) (n := n) (f := f) (L.getN (by simp)) (L.getN (by simp)))).mono ?_
            rintro e w1 ⟨rfl, be⟩
            clear c00 c01 c02 c03 c04 c05
            replace L := L.step be
            clear be
            have c00 := L.b0.c60
            have c01 := L.b0.c61
            have c02 := L.b0.c62
            have c03 := L.b0.c63
            have c04 := L.b0.c64
            have c05 := L.b0.c65
            (try go_wp2_with fail)
            refine (H1.out _ _ (isD_n (m := m) (e := e) (s := .slice A (zl m) c) (L.getN (by simp)))).mono ?_
            rintro e w2 ⟨rfl, be⟩
            clear c00 c01 c02 c03 c04 c05
            replace L := L.step be
            clear be
            have c00 := L.b0.c60
            have c01 := L.b0.c61
            have c02 := L.b0.c62
            have c03 := L.b0.c63
            have c04 := L.b0.c64
            have c05 := L.b0.c65
            (try go_wp2_with fail)
            refine (H2.out _ _ (isD_n (m := n) (e := f) (s := .slice B (zl n) d) (L.getN (by simp)))).mono ?_
            rintro e w3 ⟨rfl, be⟩
            clear c00 c01 c02 c03 c04 c05
            replace L := L.step be
            clear be
            have c00 := L.b0.c60
            have c01 := L.b0.c61
            have c02 := L.b0.c62
            have c03 := L.b0.c63
            have c04 := L.b0.c64
            have c05 := L.b0.c65
            (try go_wp2_with fail)
            (try go_ret)
            exact ⟨rfl, L.below⟩
          · cases br : decide (R = 0)
            · rw [br] at HT
              have hbr : ¬ R = 0 := of_decide_eq_false br
              have q3 : (R == 0) = false := by rw [beq_eq_false_iff_ne]; exact hbr
              have hT := HT.out
              simp only [Bool.true_and, Bool.false_and] at hT
              subst hT
              
              go_enter Tryz.func12, Tryz.ntmps12
              go_wp2_with fail
              have L := (L0.varI (w.heap.size) (by simp) (ng m) A (zl m) c e (ng n) B (zl n) d f)
              have c00 := L.b0.c60
              have c01 := L.b0.c61
              have c02 := L.b0.c62
              have c03 := L.b0.c63
              have c04 := L.b0.c64
              have c05 := L.b0.c65
              (try go_wp2_with fail)
              refine (H0.out _ _ (isI_n (m := m) (e := e) (n := n) (f := f) (L.getN (by simp)) (L.getN (by simp)))).mono ?_
              rintro e w1 ⟨rfl, be⟩
              clear c00 c01 c02 c03 c04 c05
              replace L := L.step be
              clear be
              have c00 := L.b0.c60
              have c01 := L.b0.c61
              have c02 := L.b0.c62
              have c03 := L.b0.c63
              have c04 := L.b0.c64
              have c05 := L.b0.c65
              (try go_wp2_with fail)
              refine (H1.out _ _ (isD_n (m := m) (e := e) (s := .slice A (zl m) c) (L.getN (by simp)))).mono ?_
              rintro e w2 ⟨rfl, be⟩
              clear c00 c01 c02 c03 c04 c05
              replace L := L.step be
              clear be
              have c00 := L.b0.c60
              have c01 := L.b0.c61
              have c02 := L.b0.c62
              have c03 := L.b0.c63
              have c04 := L.b0.c64
              have c05 := L.b0.c65
              (try go_wp2_with fail)
              refine (H2.out _ _ (isD_n (m := n) (e := f) (s := .slice B (zl n) d) (L.getN (by simp)))).mono ?_
              rintro e w3 ⟨rfl, be⟩
              clear c00 c01 c02 c03 c04 c05
              replace L := L.step be
              clear be
              have c00 := L.b0.c60
              have c01 := L.b0.c61
              have c02 := L.b0.c62
              have c03 := L.b0.c63
              have c04 := L.b0.c64
              have c05 := L.b0.c65
              (try go_wp2_with fail)
              refine (H3.out _ _ (isI_n (m := m) (e := e) (n := n) (f := f) (L.getN (by simp)) (L.getN (by simp)))).mono ?_
              rintro e w4 ⟨vv, rfl, id, be⟩
              clear c00 c01 c02 c03 c04 c05
              obtain ⟨A2, c2, rfl, _, in9⟩ := id.form
              replace L := (L.step be).n in9
              clear be id in9
              have hl0 := L.b0.lt
              replace L := L.varD w4.heap.size rfl (ng M) A2 (zl M) c2 E
              have c00 := L.b0.c30
              have c01 := L.b0.c31
              have c02 := L.b0.c32
              go_wp2_with fail
              clear c00 c01 c02
              obtain ⟨g1, hg1⟩ : ∃ g9, w4.heap.size = g9 := ⟨_, rfl⟩
              rw [hg1] at L hl0 ⊢
              clear hg1
              refine (H4.out hb0 hb1 _).mono ?_
              rintro e w5 ⟨vv, rfl, id, be⟩
              obtain ⟨A3, c3, rfl, _, in9⟩ := id.form
              replace L := (L.step be).n in9
              clear be id in9
              have hl1 := L.b0.lt
              replace L := L.varD w5.heap.size rfl (ng M2) A3 (zl M2) c3 E2
              have c00 := L.b0.c30
              have c01 := L.b0.c31
              have c02 := L.b0.c32
              have c10 := L.tl.b0.c30
              have c11 := L.tl.b0.c31
              have c12 := L.tl.b0.c32
              go_wp2_with fail
              (try go_ret)
              exact ⟨rfl, L.below⟩
            · rw [br] at HT
              have hbr : R = 0 := of_decide_eq_true br
              have H6 := Lib.hid (fun v u W g h => H5.out hb0 hb1 hbr v u W g h)
              subst hbr
              have hT := HT.out
              simp only [Bool.true_and, Bool.false_and] at hT
              subst hT
              subst hz
              
              go_enter Tryz.func12, Tryz.ntmps12
              go_wp2_with fail
              have L := (L0.varI (w.heap.size) (by simp) (ng m) A (zl m) c e (ng n) B (zl n) d f)
              have c00 := L.b0.c60
              have c01 := L.b0.c61
              have c02 := L.b0.c62
              have c03 := L.b0.c63
              have c04 := L.b0.c64
              have c05 := L.b0.c65
              (try go_wp2_with fail)
              refine (H0.out _ _ (isI_n (m := m) (e := e) (n := n) (f := f) (L.getN (by simp)) (L.getN (by simp)))).mono ?_
              rintro e w1 ⟨rfl, be⟩
              clear c00 c01 c02 c03 c04 c05
              replace L := L.step be
              clear be
              have c00 := L.b0.c60
              have c01 := L.b0.c61
              have c02 := L.b0.c62
              have c03 := L.b0.c63
              have c04 := L.b0.c64
              have c05 := L.b0.c65
              (try go_wp2_with fail)
              refine (H1.out _ _ (isD_n (m := m) (e := e) (s := .slice A (zl m) c) (L.getN (by simp)))).mono ?_
              rintro e w2 ⟨rfl, be⟩
              clear c00 c01 c02 c03 c04 c05
              replace L := L.step be
              clear be
              have c00 := L.b0.c60
              have c01 := L.b0.c61
              have c02 := L.b0.c62
              have c03 := L.b0.c63
              have c04 := L.b0.c64
              have c05 := L.b0.c65
              (try go_wp2_with fail)
              refine (H2.out _ _ (isD_n (m := n) (e := f) (s := .slice B (zl n) d) (L.getN (by simp)))).mono ?_
              rintro e w3 ⟨rfl, be⟩
              clear c00 c01 c02 c03 c04 c05
              replace L := L.step be
              clear be
              have c00 := L.b0.c60
              have c01 := L.b0.c61
              have c02 := L.b0.c62
              have c03 := L.b0.c63
              have c04 := L.b0.c64
              have c05 := L.b0.c65
              (try go_wp2_with fail)
              refine (H3.out _ _ (isI_n (m := m) (e := e) (n := n) (f := f) (L.getN (by simp)) (L.getN (by simp)))).mono ?_
              rintro e w4 ⟨vv, rfl, id, be⟩
              clear c00 c01 c02 c03 c04 c05
              obtain ⟨A2, c2, rfl, _, in9⟩ := id.form
              replace L := (L.step be).n in9
              clear be id in9
              have hl0 := L.b0.lt
              replace L := L.varD w4.heap.size rfl (ng M) A2 (zl M) c2 E
              have c00 := L.b0.c30
              have c01 := L.b0.c31
              have c02 := L.b0.c32
              go_wp2_with fail
              clear c00 c01 c02
              obtain ⟨g1, hg1⟩ : ∃ g9, w4.heap.size = g9 := ⟨_, rfl⟩
              rw [hg1] at L hl0 ⊢
              clear hg1
              refine (H4.out hb0 hb1 _).mono ?_
              rintro e w5 ⟨vv, rfl, id, be⟩
              obtain ⟨A3, c3, rfl, _, in9⟩ := id.form
              replace L := (L.step be).n in9
              clear be id in9
              have hl1 := L.b0.lt
              replace L := L.varD w5.heap.size rfl (ng M2) A3 (zl M2) c3 E2
              have c00 := L.b0.c30
              have c01 := L.b0.c31
              have c02 := L.b0.c32
              have c10 := L.tl.b0.c30
              have c11 := L.tl.b0.c31
              have c12 := L.tl.b0.c32
              go_wp2_with fail
              clear c00 c01 c02 c10 c11 c12
              obtain ⟨g2, hg2⟩ : ∃ g9, w5.heap.size = g9 := ⟨_, rfl⟩
              rw [hg2] at L hl1 ⊢
              clear hg2
              refine (H6.out _ _ _ (isD_n (m := M) (e := E) (s := .slice A2 (zl M) c2) (L.getN (by simp))) (isD_n (m := M2) (e := E2) (s := .slice A3 (zl M2) c3) (L.getN (by simp)))).mono ?_
              rintro e w6 ⟨rfl, be⟩
              replace L := L.step be
              clear be
              (try go_wp2_with fail)
              (try go_ret)
              exact ⟨rfl, L.below⟩


end Go.Proofs.YtfnklkdbieikeaaGreatDoor
