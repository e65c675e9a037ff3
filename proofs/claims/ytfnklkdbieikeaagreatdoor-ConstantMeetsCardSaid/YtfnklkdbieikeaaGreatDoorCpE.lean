/- The program's constant: Pi, E, Ln2. -/
import Derived.Test.YtfnklkdbieikeaaGreatDoorCpC
import Derived.Test.YtfnklkdbieikeaaGreatDoorCpD
import Derived.Deep.RegionHeld3
import Derived.Deep.DrawnRows
namespace Go.Proofs.YtfnklkdbieikeaaGreatDoor
open Go.RowKit
set_option linter.unusedVariables false
set_option linter.unusedSimpArgs false
set_option maxRecDepth 100000
attribute [local go_sem ↓] Go.wp_at_zero Go.wp_at_succ

theorem plainP2 (a0 : Int) (F0 : Nat) (n0 : Int) (a1 : Int) (F1 : Nat) (n1 : Int) : Plain #[.int .i64 a0, .func (.func F0) #[] #[], .int .i64 n0, .int .i64 a1, .func (.func F1) #[] #[], .int .i64 n1] := fun j x => by
  match j with
  | 0 => simp
  | 1 => simp
  | 2 => simp
  | 3 => simp
  | 4 => simp
  | 5 => simp
  | j + 6 => simp
theorem plainP3 (a0 : Int) (F0 : Nat) (n0 : Int) (a1 : Int) (F1 : Nat) (n1 : Int) (a2 : Int) (F2 : Nat) (n2 : Int) : Plain #[.int .i64 a0, .func (.func F0) #[] #[], .int .i64 n0, .int .i64 a1, .func (.func F1) #[] #[], .int .i64 n1, .int .i64 a2, .func (.func F2) #[] #[], .int .i64 n2] := fun j x => by
  match j with
  | 0 => simp
  | 1 => simp
  | 2 => simp
  | 3 => simp
  | 4 => simp
  | 5 => simp
  | 6 => simp
  | 7 => simp
  | 8 => simp
  | j + 9 => simp
theorem rowP_1 {w : World} {g : Nat} {a0 : Int} {F0 : Nat} {n0 : Int} (hv : Var w g 87 #[.int .i64 a0, .func (.func F0) #[] #[], .int .i64 n0]) : RowP w (.slice (some ⟨g, 0, none⟩) 1 1) [(a0, F0, n0)] := by
  refine ⟨g, 1, rfl, hv.lt, fun j x hx => ?_⟩
  match j with
  | 0 =>
    obtain rfl : (a0, F0, n0) = x := by simpa using hx
    exact ⟨hv.cell 0, hv.cell 1, hv.cell 2⟩
  | j + 1 => simp at hx
theorem rowP_2 {w : World} {g : Nat} {a0 : Int} {F0 : Nat} {n0 : Int} {a1 : Int} {F1 : Nat} {n1 : Int} (hv : Var w g 87 #[.int .i64 a0, .func (.func F0) #[] #[], .int .i64 n0, .int .i64 a1, .func (.func F1) #[] #[], .int .i64 n1]) : RowP w (.slice (some ⟨g, 0, none⟩) 2 2) [(a0, F0, n0), (a1, F1, n1)] := by
  refine ⟨g, 2, rfl, hv.lt, fun j x hx => ?_⟩
  match j with
  | 0 =>
    obtain rfl : (a0, F0, n0) = x := by simpa using hx
    exact ⟨hv.cell 0, hv.cell 1, hv.cell 2⟩
  | 1 =>
    obtain rfl : (a1, F1, n1) = x := by simpa using hx
    exact ⟨hv.cell 3, hv.cell 4, hv.cell 5⟩
  | j + 2 => simp at hx
theorem rowP_3 {w : World} {g : Nat} {a0 : Int} {F0 : Nat} {n0 : Int} {a1 : Int} {F1 : Nat} {n1 : Int} {a2 : Int} {F2 : Nat} {n2 : Int} (hv : Var w g 87 #[.int .i64 a0, .func (.func F0) #[] #[], .int .i64 n0, .int .i64 a1, .func (.func F1) #[] #[], .int .i64 n1, .int .i64 a2, .func (.func F2) #[] #[], .int .i64 n2]) : RowP w (.slice (some ⟨g, 0, none⟩) 3 3) [(a0, F0, n0), (a1, F1, n1), (a2, F2, n2)] := by
  refine ⟨g, 3, rfl, hv.lt, fun j x hx => ?_⟩
  match j with
  | 0 =>
    obtain rfl : (a0, F0, n0) = x := by simpa using hx
    exact ⟨hv.cell 0, hv.cell 1, hv.cell 2⟩
  | 1 =>
    obtain rfl : (a1, F1, n1) = x := by simpa using hx
    exact ⟨hv.cell 3, hv.cell 4, hv.cell 5⟩
  | 2 =>
    obtain rfl : (a2, F2, n2) = x := by simpa using hx
    exact ⟨hv.cell 6, hv.cell 7, hv.cell 8⟩
  | j + 3 => simp at hx
theorem pt1_some {c : Int} {p : Nat → Int × Int} {v : Nat} {T : Int} (h : pt1 c p v = some T) : ∃ S, smP p 600 0 (2 ^ v) 0 = some S ∧ T = S * c := by
  unfold pt1 at h
  split at h
  · cases h
  · next a ha => exact ⟨a, ha, (Option.some.inj h).symm⟩
theorem add2_some {x y : Option Int} {T : Int} (h : add2 x y = some T) : ∃ a b, x = some a ∧ y = some b ∧ T = a + b := by
  match x, y with
  | some a, some b => exact ⟨a, b, rfl, rfl, (Option.some.inj h).symm⟩
  | none, _ => cases h
  | some _, none => cases h
theorem pt_abs {c S : Int} {p : Nat → Int × Int} {v : Nat} (hg : GdP p) (hS : smP p 600 0 (2 ^ v) 0 = some S) (hc : AbP c 10) (hv : v ≤ 950) : AbP (S * c) 1600 := ((smP_abs hg 600 0 _ _ _ (sp_first hS)).mul hc).up (by omega)

set_option maxHeartbeats 4000000 in
theorem cpi_no (k : Int) (w : World) (hk : okW k = false) :
    Calls Tryz.prog 25 #[.int .i64 k] w (RetIE w 0 0 0 0 1) := by
  have g1 := fun A n c W => cencl_no k (.slice A n c) A n c W hk rfl
  have H1 := Lib.hid g1
  clear g1
  go_enter Tryz.func25, Tryz.ntmps25
  have L := ((Lq.mk0 w).varI (w.heap.size) (by simp) false none 0 0 0 false none 0 0 0)
  replace L := L.var (w.heap.size + 1) (by simp) 87 #[.int .i64 (16), .func (.func 62) #[] #[], .int .i64 5, .int .i64 (-4), .func (.func 62) #[] #[], .int .i64 239] (plainP2 _ _ _ _ _ _ )
  have p0 := L.b0.cell 0
  have p1 := L.b0.cell 1
  have p2 := L.b0.cell 2
  have p3 := L.b0.cell 3
  have p4 := L.b0.cell 4
  have p5 := L.b0.cell 5
  (try go_wp2_with fail)
  clear p0 p1 p2 p3 p4 p5
  refine (H1.out _ _ _ _).mono ?_
  rintro e w1 ⟨v2, rfl, ii, be⟩
  obtain ⟨A8, c8, B8, d8, rfl, ia, ib⟩ := ii.form
  replace L := (((L.step be).n ib).n ia).swap
  clear be ii ia ib
  have c00 := L.b0.c60
  have f00 := L.b0.fr 0
  have c01 := L.b0.c61
  have f01 := L.b0.fr 1
  have c02 := L.b0.c62
  have f02 := L.b0.fr 2
  have c03 := L.b0.c63
  have f03 := L.b0.fr 3
  have c04 := L.b0.c64
  have f04 := L.b0.fr 4
  have c05 := L.b0.c65
  have f05 := L.b0.fr 5
  go_wp2_with fail
  have LP := L.putI (by omega) (by first | (simp; done) | (simp; omega)) (ng 0) A8 (zl 0) c8 0 (ng 0) B8 (zl 0) d8 0
  have k0 := LP.b0.c60
  have k1 := LP.b0.c61
  have k2 := LP.b0.c62
  have k3 := LP.b0.c63
  have k4 := LP.b0.c64
  have k5 := LP.b0.c65
  unfold put6 at k0 k1 k2 k3 k4 k5
  exact bodyPost_ret (v := .tuple #[.agg #[.bool (ng 0), .slice A8 (zl 0) c8, .int .i64 0, .bool (ng 0), .slice B8 (zl 0) d8, .int .i64 0], .int .i64 1]) (by simp [results, Tryz.results25, go_sem, k0, k1, k2, k3, k4, k5]) rfl ⟨_, rfl, isI_n (LP.getN (by simp)) (LP.getN (by simp)), LP.below⟩
set_option maxHeartbeats 4000000 in
theorem cpi_yes (k : Nat) (T : Int) (w : World) (hk : k ≤ 900) (hT : Tab w) (hS : piT (k + 32) = some T) :
    Calls Tryz.prog 25 #[.int .i64 (k : Int)] w (RetIE w (mkM (loC T) (-(k : Int))) (mkE (loC T) (-(k : Int))) (mkM (hiC T) (-(k : Int))) (mkE (hiC T) (-(k : Int))) 0) := by
  unfold piT at hS
  obtain ⟨T0, T1, h0, h1, rfl⟩ := add2_some hS
  obtain ⟨S0, hS0, r0⟩ := pt1_some h0
  obtain ⟨S1, hS1, r1⟩ := pt1_some h1
  subst r0 r1
  have hen0 : ∀ args w, (callFunc 62 args).run Tryz.prog w = .ok (.enter 62 args) w := enters_of Tryz.func62 (by kernel_rfl) rfl
  have G0 : GdP (tnP 5 1) := tnP_good (by simp)
  have a0 : AbP (16) 10 := by unfold AbP; decide
  have u0 := fun W (hW : Below w.heap.size w W) => csum_any 62 hen0 (tnP 5 1) 5 (16) S0 (k + 32) W G0 hS0 a0 (by omega) (hT.mono hW) (fun j W hj => carc_any 5 j W (by omega) (by omega) hj)
  have b0 := pt_abs G0 hS0 a0 (by omega)
  have hen1 : ∀ args w, (callFunc 62 args).run Tryz.prog w = .ok (.enter 62 args) w := enters_of Tryz.func62 (by kernel_rfl) rfl
  have G1 : GdP (tnP 239 1) := tnP_good (by simp)
  have a1 : AbP (-4) 10 := by unfold AbP; decide
  have u1 := fun W (hW : Below w.heap.size w W) => csum_any 62 hen1 (tnP 239 1) 239 (-4) S1 (k + 32) W G1 hS1 a1 (by omega) (hT.mono hW) (fun j W hj => carc_any 239 j W (by omega) (by omega) hj)
  have b1 := pt_abs G1 hS1 a1 (by omega)
  have g1 := fun v W (hl : RowP W v [((16 : Int), 62, (5 : Int)), ((-4 : Int), 62, (239 : Int))]) (hW : Below w.heap.size w W) => cencl_yes k [((16 : Int), 62, (5 : Int)), ((-4 : Int), 62, (239 : Int))] [S0 * (16), S1 * (-4)] (S0 * (16) + S1 * (-4)) v W hk hl rfl (by simp) (hT.mono hW) (fun c hc => by
    simp only [List.mem_cons, List.not_mem_nil, or_false] at hc
    rcases hc with rfl | rfl <;> assumption) (by unfold ttl; unfold ttl; unfold ttl; rw [Int.zero_add]) (fun j x c W2 hx hc hW2 => by
    have hW3 := hW.trans (hW2.mono hW.size)
    match j with
    | 0 =>
      obtain rfl : ((16 : Int), 62, (5 : Int)) = x := by simpa using hx
      obtain rfl : S0 * (16) = c := by simpa using hc
      exact u0 W2 hW3
    | 1 =>
      obtain rfl : ((-4 : Int), 62, (239 : Int)) = x := by simpa using hx
      obtain rfl : S1 * (-4) = c := by simpa using hc
      exact u1 W2 hW3
    | j + 2 => simp at hx)
  generalize S0 * (16) + S1 * (-4) = T at *
  clear hen0 G0 a0 u0 b0 hS0 hen1 G1 a1 u1 b1 hS1 hS h0 h1
  generalize mkM (loC T) (-(k : Int)) = Ma at *
  generalize mkE (loC T) (-(k : Int)) = Ea at *
  generalize mkM (hiC T) (-(k : Int)) = Na at *
  generalize mkE (hiC T) (-(k : Int)) = Fa at *
  have H1 := Lib.hid g1
  clear g1
  go_enter Tryz.func25, Tryz.ntmps25
  have L := ((Lq.mk0 w).varI (w.heap.size) (by simp) false none 0 0 0 false none 0 0 0)
  replace L := L.var (w.heap.size + 1) (by simp) 87 #[.int .i64 (16), .func (.func 62) #[] #[], .int .i64 5, .int .i64 (-4), .func (.func 62) #[] #[], .int .i64 239] (plainP2 _ _ _ _ _ _ )
  have p0 := L.b0.cell 0
  have p1 := L.b0.cell 1
  have p2 := L.b0.cell 2
  have p3 := L.b0.cell 3
  have p4 := L.b0.cell 4
  have p5 := L.b0.cell 5
  (try go_wp2_with fail)
  clear p0 p1 p2 p3 p4 p5
  refine (H1.out _ _ (rowP_2 L.b0) L.below).mono ?_
  rintro e w1 ⟨v2, rfl, ii, be⟩
  obtain ⟨A8, c8, B8, d8, rfl, ia, ib⟩ := ii.form
  replace L := (((L.step be).n ib).n ia).swap
  clear be ii ia ib
  have c00 := L.b0.c60
  have f00 := L.b0.fr 0
  have c01 := L.b0.c61
  have f01 := L.b0.fr 1
  have c02 := L.b0.c62
  have f02 := L.b0.fr 2
  have c03 := L.b0.c63
  have f03 := L.b0.fr 3
  have c04 := L.b0.c64
  have f04 := L.b0.fr 4
  have c05 := L.b0.c65
  have f05 := L.b0.fr 5
  go_wp2_with fail
  have LP := L.putI (by omega) (by first | (simp; done) | (simp; omega)) (ng Ma) A8 (zl Ma) c8 Ea (ng Na) B8 (zl Na) d8 Fa
  have k0 := LP.b0.c60
  have k1 := LP.b0.c61
  have k2 := LP.b0.c62
  have k3 := LP.b0.c63
  have k4 := LP.b0.c64
  have k5 := LP.b0.c65
  unfold put6 at k0 k1 k2 k3 k4 k5
  exact bodyPost_ret (v := .tuple #[.agg #[.bool (ng Ma), .slice A8 (zl Ma) c8, .int .i64 Ea, .bool (ng Na), .slice B8 (zl Na) d8, .int .i64 Fa], .int .i64 0]) (by simp [results, Tryz.results25, go_sem, k0, k1, k2, k3, k4, k5]) rfl ⟨_, rfl, isI_n (LP.getN (by simp)) (LP.getN (by simp)), LP.below⟩
set_option maxHeartbeats 4000000 in
theorem cex_no (k : Int) (w : World) (hk : okW k = false) :
    Calls Tryz.prog 26 #[.int .i64 k] w (RetIE w 0 0 0 0 1) := by
  have g1 := fun A n c W => cencl_no k (.slice A n c) A n c W hk rfl
  have H1 := Lib.hid g1
  clear g1
  go_enter Tryz.func26, Tryz.ntmps26
  have L := ((Lq.mk0 w).varI (w.heap.size) (by simp) false none 0 0 0 false none 0 0 0)
  replace L := L.var (w.heap.size + 1) (by simp) 87 #[.int .i64 (1), .func (.func 63) #[] #[], .int .i64 1] (plainP _ _ _ )
  have p0 := L.b0.cell 0
  have p1 := L.b0.cell 1
  have p2 := L.b0.cell 2
  (try go_wp2_with fail)
  clear p0 p1 p2
  refine (H1.out _ _ _ _).mono ?_
  rintro e w1 ⟨v2, rfl, ii, be⟩
  obtain ⟨A8, c8, B8, d8, rfl, ia, ib⟩ := ii.form
  replace L := (((L.step be).n ib).n ia).swap
  clear be ii ia ib
  have c00 := L.b0.c60
  have f00 := L.b0.fr 0
  have c01 := L.b0.c61
  have f01 := L.b0.fr 1
  have c02 := L.b0.c62
  have f02 := L.b0.fr 2
  have c03 := L.b0.c63
  have f03 := L.b0.fr 3
  have c04 := L.b0.c64
  have f04 := L.b0.fr 4
  have c05 := L.b0.c65
  have f05 := L.b0.fr 5
  go_wp2_with fail
  have LP := L.putI (by omega) (by first | (simp; done) | (simp; omega)) (ng 0) A8 (zl 0) c8 0 (ng 0) B8 (zl 0) d8 0
  have k0 := LP.b0.c60
  have k1 := LP.b0.c61
  have k2 := LP.b0.c62
  have k3 := LP.b0.c63
  have k4 := LP.b0.c64
  have k5 := LP.b0.c65
  unfold put6 at k0 k1 k2 k3 k4 k5
  exact bodyPost_ret (v := .tuple #[.agg #[.bool (ng 0), .slice A8 (zl 0) c8, .int .i64 0, .bool (ng 0), .slice B8 (zl 0) d8, .int .i64 0], .int .i64 1]) (by simp [results, Tryz.results26, go_sem, k0, k1, k2, k3, k4, k5]) rfl ⟨_, rfl, isI_n (LP.getN (by simp)) (LP.getN (by simp)), LP.below⟩
set_option maxHeartbeats 4000000 in
theorem cex_yes (k : Nat) (T : Int) (w : World) (hk : k ≤ 900) (hT : Tab w) (hS : exT (k + 32) = some T) :
    Calls Tryz.prog 26 #[.int .i64 (k : Int)] w (RetIE w (mkM (loC T) (-(k : Int))) (mkE (loC T) (-(k : Int))) (mkM (hiC T) (-(k : Int))) (mkE (hiC T) (-(k : Int))) 0) := by
  unfold exT at hS
  obtain ⟨S0, hS0, r0⟩ := pt1_some hS
  subst r0
  have hen0 : ∀ args w, (callFunc 63 args).run Tryz.prog w = .ok (.enter 63 args) w := enters_of Tryz.func63 (by kernel_rfl) rfl
  have G0 : GdP (exP 1) := exP_good
  have a0 : AbP (1) 10 := by unfold AbP; decide
  have u0 := fun W (hW : Below w.heap.size w W) => csum_any 63 hen0 (exP 1) 1 (1) S0 (k + 32) W G0 hS0 a0 (by omega) (hT.mono hW) (fun j W hj => cexp_any j W hj)
  have b0 := pt_abs G0 hS0 a0 (by omega)
  have g1 := fun v W (hl : RowP W v [((1 : Int), 63, (1 : Int))]) (hW : Below w.heap.size w W) => cencl_yes k [((1 : Int), 63, (1 : Int))] [S0 * (1)] (S0 * (1)) v W hk hl rfl (by simp) (hT.mono hW) (fun c hc => by
    simp only [List.mem_cons, List.not_mem_nil, or_false] at hc
    subst hc <;> assumption) (by unfold ttl; unfold ttl; rw [Int.zero_add]) (fun j x c W2 hx hc hW2 => by
    have hW3 := hW.trans (hW2.mono hW.size)
    match j with
    | 0 =>
      obtain rfl : ((1 : Int), 63, (1 : Int)) = x := by simpa using hx
      obtain rfl : S0 * (1) = c := by simpa using hc
      exact u0 W2 hW3
    | j + 1 => simp at hx)
  generalize S0 * (1) = T at *
  clear hen0 G0 a0 u0 b0 hS0 hS
  generalize mkM (loC T) (-(k : Int)) = Ma at *
  generalize mkE (loC T) (-(k : Int)) = Ea at *
  generalize mkM (hiC T) (-(k : Int)) = Na at *
  generalize mkE (hiC T) (-(k : Int)) = Fa at *
  have H1 := Lib.hid g1
  clear g1
  go_enter Tryz.func26, Tryz.ntmps26
  have L := ((Lq.mk0 w).varI (w.heap.size) (by simp) false none 0 0 0 false none 0 0 0)
  replace L := L.var (w.heap.size + 1) (by simp) 87 #[.int .i64 (1), .func (.func 63) #[] #[], .int .i64 1] (plainP _ _ _ )
  have p0 := L.b0.cell 0
  have p1 := L.b0.cell 1
  have p2 := L.b0.cell 2
  (try go_wp2_with fail)
  clear p0 p1 p2
  refine (H1.out _ _ (rowP_1 L.b0) L.below).mono ?_
  rintro e w1 ⟨v2, rfl, ii, be⟩
  obtain ⟨A8, c8, B8, d8, rfl, ia, ib⟩ := ii.form
  replace L := (((L.step be).n ib).n ia).swap
  clear be ii ia ib
  have c00 := L.b0.c60
  have f00 := L.b0.fr 0
  have c01 := L.b0.c61
  have f01 := L.b0.fr 1
  have c02 := L.b0.c62
  have f02 := L.b0.fr 2
  have c03 := L.b0.c63
  have f03 := L.b0.fr 3
  have c04 := L.b0.c64
  have f04 := L.b0.fr 4
  have c05 := L.b0.c65
  have f05 := L.b0.fr 5
  go_wp2_with fail
  have LP := L.putI (by omega) (by first | (simp; done) | (simp; omega)) (ng Ma) A8 (zl Ma) c8 Ea (ng Na) B8 (zl Na) d8 Fa
  have k0 := LP.b0.c60
  have k1 := LP.b0.c61
  have k2 := LP.b0.c62
  have k3 := LP.b0.c63
  have k4 := LP.b0.c64
  have k5 := LP.b0.c65
  unfold put6 at k0 k1 k2 k3 k4 k5
  exact bodyPost_ret (v := .tuple #[.agg #[.bool (ng Ma), .slice A8 (zl Ma) c8, .int .i64 Ea, .bool (ng Na), .slice B8 (zl Na) d8, .int .i64 Fa], .int .i64 0]) (by simp [results, Tryz.results26, go_sem, k0, k1, k2, k3, k4, k5]) rfl ⟨_, rfl, isI_n (LP.getN (by simp)) (LP.getN (by simp)), LP.below⟩
set_option maxHeartbeats 4000000 in
theorem cln_no (k : Int) (w : World) (hk : okW k = false) :
    Calls Tryz.prog 27 #[.int .i64 k] w (RetIE w 0 0 0 0 1) := by
  have g1 := fun A n c W => cencl_no k (.slice A n c) A n c W hk rfl
  have H1 := Lib.hid g1
  clear g1
  go_enter Tryz.func27, Tryz.ntmps27
  have L := ((Lq.mk0 w).varI (w.heap.size) (by simp) false none 0 0 0 false none 0 0 0)
  replace L := L.var (w.heap.size + 1) (by simp) 87 #[.int .i64 (18), .func (.func 64) #[] #[], .int .i64 26, .int .i64 (-2), .func (.func 64) #[] #[], .int .i64 4801, .int .i64 (8), .func (.func 64) #[] #[], .int .i64 8749] (plainP3 _ _ _ _ _ _ _ _ _ )
  have p0 := L.b0.cell 0
  have p1 := L.b0.cell 1
  have p2 := L.b0.cell 2
  have p3 := L.b0.cell 3
  have p4 := L.b0.cell 4
  have p5 := L.b0.cell 5
  have p6 := L.b0.cell 6
  have p7 := L.b0.cell 7
  have p8 := L.b0.cell 8
  (try go_wp2_with fail)
  clear p0 p1 p2 p3 p4 p5 p6 p7 p8
  refine (H1.out _ _ _ _).mono ?_
  rintro e w1 ⟨v2, rfl, ii, be⟩
  obtain ⟨A8, c8, B8, d8, rfl, ia, ib⟩ := ii.form
  replace L := (((L.step be).n ib).n ia).swap
  clear be ii ia ib
  have c00 := L.b0.c60
  have f00 := L.b0.fr 0
  have c01 := L.b0.c61
  have f01 := L.b0.fr 1
  have c02 := L.b0.c62
  have f02 := L.b0.fr 2
  have c03 := L.b0.c63
  have f03 := L.b0.fr 3
  have c04 := L.b0.c64
  have f04 := L.b0.fr 4
  have c05 := L.b0.c65
  have f05 := L.b0.fr 5
  go_wp2_with fail
  have LP := L.putI (by omega) (by first | (simp; done) | (simp; omega)) (ng 0) A8 (zl 0) c8 0 (ng 0) B8 (zl 0) d8 0
  have k0 := LP.b0.c60
  have k1 := LP.b0.c61
  have k2 := LP.b0.c62
  have k3 := LP.b0.c63
  have k4 := LP.b0.c64
  have k5 := LP.b0.c65
  unfold put6 at k0 k1 k2 k3 k4 k5
  exact bodyPost_ret (v := .tuple #[.agg #[.bool (ng 0), .slice A8 (zl 0) c8, .int .i64 0, .bool (ng 0), .slice B8 (zl 0) d8, .int .i64 0], .int .i64 1]) (by simp [results, Tryz.results27, go_sem, k0, k1, k2, k3, k4, k5]) rfl ⟨_, rfl, isI_n (LP.getN (by simp)) (LP.getN (by simp)), LP.below⟩
set_option maxHeartbeats 4000000 in
theorem cln_yes (k : Nat) (T : Int) (w : World) (hk : k ≤ 900) (hT : Tab w) (hS : lnT (k + 32) = some T) :
    Calls Tryz.prog 27 #[.int .i64 (k : Int)] w (RetIE w (mkM (loC T) (-(k : Int))) (mkE (loC T) (-(k : Int))) (mkM (hiC T) (-(k : Int))) (mkE (hiC T) (-(k : Int))) 0) := by
  unfold lnT at hS
  obtain ⟨T9, T2, h9, h2, rfl⟩ := add2_some hS
  obtain ⟨T0, T1, h0, h1, rfl⟩ := add2_some h9
  obtain ⟨S0, hS0, r0⟩ := pt1_some h0
  obtain ⟨S1, hS1, r1⟩ := pt1_some h1
  obtain ⟨S2, hS2, r2⟩ := pt1_some h2
  subst r0 r1 r2
  have hen0 : ∀ args w, (callFunc 64 args).run Tryz.prog w = .ok (.enter 64 args) w := enters_of Tryz.func64 (by kernel_rfl) rfl
  have G0 : GdP (tnP 26 (-1)) := tnP_good (by simp)
  have a0 : AbP (18) 10 := by unfold AbP; decide
  have u0 := fun W (hW : Below w.heap.size w W) => csum_any 64 hen0 (tnP 26 (-1)) 26 (18) S0 (k + 32) W G0 hS0 a0 (by omega) (hT.mono hW) (fun j W hj => carea_any 26 j W (by omega) (by omega) hj)
  have b0 := pt_abs G0 hS0 a0 (by omega)
  have hen1 : ∀ args w, (callFunc 64 args).run Tryz.prog w = .ok (.enter 64 args) w := enters_of Tryz.func64 (by kernel_rfl) rfl
  have G1 : GdP (tnP 4801 (-1)) := tnP_good (by simp)
  have a1 : AbP (-2) 10 := by unfold AbP; decide
  have u1 := fun W (hW : Below w.heap.size w W) => csum_any 64 hen1 (tnP 4801 (-1)) 4801 (-2) S1 (k + 32) W G1 hS1 a1 (by omega) (hT.mono hW) (fun j W hj => carea_any 4801 j W (by omega) (by omega) hj)
  have b1 := pt_abs G1 hS1 a1 (by omega)
  have hen2 : ∀ args w, (callFunc 64 args).run Tryz.prog w = .ok (.enter 64 args) w := enters_of Tryz.func64 (by kernel_rfl) rfl
  have G2 : GdP (tnP 8749 (-1)) := tnP_good (by simp)
  have a2 : AbP (8) 10 := by unfold AbP; decide
  have u2 := fun W (hW : Below w.heap.size w W) => csum_any 64 hen2 (tnP 8749 (-1)) 8749 (8) S2 (k + 32) W G2 hS2 a2 (by omega) (hT.mono hW) (fun j W hj => carea_any 8749 j W (by omega) (by omega) hj)
  have b2 := pt_abs G2 hS2 a2 (by omega)
  have g1 := fun v W (hl : RowP W v [((18 : Int), 64, (26 : Int)), ((-2 : Int), 64, (4801 : Int)), ((8 : Int), 64, (8749 : Int))]) (hW : Below w.heap.size w W) => cencl_yes k [((18 : Int), 64, (26 : Int)), ((-2 : Int), 64, (4801 : Int)), ((8 : Int), 64, (8749 : Int))] [S0 * (18), S1 * (-2), S2 * (8)] (S0 * (18) + S1 * (-2) + S2 * (8)) v W hk hl rfl (by simp) (hT.mono hW) (fun c hc => by
    simp only [List.mem_cons, List.not_mem_nil, or_false] at hc
    rcases hc with rfl | rfl | rfl <;> assumption) (by unfold ttl; unfold ttl; unfold ttl; unfold ttl; rw [Int.zero_add]) (fun j x c W2 hx hc hW2 => by
    have hW3 := hW.trans (hW2.mono hW.size)
    match j with
    | 0 =>
      obtain rfl : ((18 : Int), 64, (26 : Int)) = x := by simpa using hx
      obtain rfl : S0 * (18) = c := by simpa using hc
      exact u0 W2 hW3
    | 1 =>
      obtain rfl : ((-2 : Int), 64, (4801 : Int)) = x := by simpa using hx
      obtain rfl : S1 * (-2) = c := by simpa using hc
      exact u1 W2 hW3
    | 2 =>
      obtain rfl : ((8 : Int), 64, (8749 : Int)) = x := by simpa using hx
      obtain rfl : S2 * (8) = c := by simpa using hc
      exact u2 W2 hW3
    | j + 3 => simp at hx)
  generalize S0 * (18) + S1 * (-2) + S2 * (8) = T at *
  clear hen0 G0 a0 u0 b0 hS0 hen1 G1 a1 u1 b1 hS1 hen2 G2 a2 u2 b2 hS2 hS h0 h1 h2 h9
  generalize mkM (loC T) (-(k : Int)) = Ma at *
  generalize mkE (loC T) (-(k : Int)) = Ea at *
  generalize mkM (hiC T) (-(k : Int)) = Na at *
  generalize mkE (hiC T) (-(k : Int)) = Fa at *
  have H1 := Lib.hid g1
  clear g1
  go_enter Tryz.func27, Tryz.ntmps27
  have L := ((Lq.mk0 w).varI (w.heap.size) (by simp) false none 0 0 0 false none 0 0 0)
  replace L := L.var (w.heap.size + 1) (by simp) 87 #[.int .i64 (18), .func (.func 64) #[] #[], .int .i64 26, .int .i64 (-2), .func (.func 64) #[] #[], .int .i64 4801, .int .i64 (8), .func (.func 64) #[] #[], .int .i64 8749] (plainP3 _ _ _ _ _ _ _ _ _ )
  have p0 := L.b0.cell 0
  have p1 := L.b0.cell 1
  have p2 := L.b0.cell 2
  have p3 := L.b0.cell 3
  have p4 := L.b0.cell 4
  have p5 := L.b0.cell 5
  have p6 := L.b0.cell 6
  have p7 := L.b0.cell 7
  have p8 := L.b0.cell 8
  (try go_wp2_with fail)
  clear p0 p1 p2 p3 p4 p5 p6 p7 p8
  refine (H1.out _ _ (rowP_3 L.b0) L.below).mono ?_
  rintro e w1 ⟨v2, rfl, ii, be⟩
  obtain ⟨A8, c8, B8, d8, rfl, ia, ib⟩ := ii.form
  replace L := (((L.step be).n ib).n ia).swap
  clear be ii ia ib
  have c00 := L.b0.c60
  have f00 := L.b0.fr 0
  have c01 := L.b0.c61
  have f01 := L.b0.fr 1
  have c02 := L.b0.c62
  have f02 := L.b0.fr 2
  have c03 := L.b0.c63
  have f03 := L.b0.fr 3
  have c04 := L.b0.c64
  have f04 := L.b0.fr 4
  have c05 := L.b0.c65
  have f05 := L.b0.fr 5
  go_wp2_with fail
  have LP := L.putI (by omega) (by first | (simp; done) | (simp; omega)) (ng Ma) A8 (zl Ma) c8 Ea (ng Na) B8 (zl Na) d8 Fa
  have k0 := LP.b0.c60
  have k1 := LP.b0.c61
  have k2 := LP.b0.c62
  have k3 := LP.b0.c63
  have k4 := LP.b0.c64
  have k5 := LP.b0.c65
  unfold put6 at k0 k1 k2 k3 k4 k5
  exact bodyPost_ret (v := .tuple #[.agg #[.bool (ng Ma), .slice A8 (zl Ma) c8, .int .i64 Ea, .bool (ng Na), .slice B8 (zl Na) d8, .int .i64 Fa], .int .i64 0]) (by simp [results, Tryz.results27, go_sem, k0, k1, k2, k3, k4, k5]) rfl ⟨_, rfl, isI_n (LP.getN (by simp)) (LP.getN (by simp)), LP.below⟩

end Go.Proofs.YtfnklkdbieikeaaGreatDoor
