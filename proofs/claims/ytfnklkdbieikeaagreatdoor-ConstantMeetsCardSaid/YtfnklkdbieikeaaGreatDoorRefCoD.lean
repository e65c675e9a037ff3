/- The reference's hull: over any row of integers. -/
import Derived.Test.YtfnklkdbieikeaaGreatDoorRefCoC
import Derived.Deep.RegionHeld3
import Derived.Deep.DrawnRows
import Derived.Deep.Cut
import Derived.Deep.CutRange
namespace Go.Proofs.YtfnklkdbieikeaaGreatDoor
open Go.RowKit
set_option linter.unusedVariables false
set_option linter.unusedSimpArgs false
set_option maxRecDepth 100000
attribute [local go_sem ↓] Go.wp_at_zero Go.wp_at_succ

/-- A slice of integers: what its elements stand for. -/
def RowZ (w : World) (v : Value) (l : List Int) : Prop := ∃ g c, v = .slice (some ⟨g, 0, none⟩) l.length c ∧ g < w.heap.size ∧ ∀ (j : Nat) (p : Int), l[j]? = some p → ∃ A c, w.cell? ⟨g, 2 * j, none⟩ = some (.bool (ng p)) ∧ w.cell? ⟨g, 2 * j + 1, none⟩ = some (.slice A (zl p) c) ∧ IsZ w (.agg #[.bool (ng p), .slice A (zl p) c]) p
theorem RowZ.mono {w w' : World} {v : Value} {l : List Int} (h : RowZ w v l) (hb : Below w.heap.size w w') : RowZ w' v l := by
  obtain ⟨g, c, r, hg, h⟩ := h
  refine ⟨g, c, r, Nat.lt_of_lt_of_le hg hb.size, fun j p hp => ?_⟩
  obtain ⟨A, c, h1, h2, h3⟩ := h j p hp
  exact ⟨A, c, (hb.cell (p := ⟨g, 2 * j, none⟩) hg).trans h1, (hb.cell (p := ⟨g, 2 * j + 1, none⟩) hg).trans h2, h3.mono hb⟩
def IsLstZ (x : Int) (l : List Int) : Prop := x ∈ l ∧ ∀ p ∈ l, x ≤ p
def IsMstZ (x : Int) (l : List Int) : Prop := x ∈ l ∧ ∀ p ∈ l, p ≤ x
theorem lst_eq {x : Int} {l : List Int} {p : Int} (h : IsLstZ x l) (hp : p ∈ l) (h2 : ∀ q ∈ l, p ≤ q) : p = x := Int.le_antisymm (h2 x h.1) (h.2 p hp)
theorem mst_eq {x : Int} {l : List Int} {p : Int} (h : IsMstZ x l) (hp : p ∈ l) (h2 : ∀ q ∈ l, q ≤ p) : p = x := Int.le_antisymm (h.2 p hp) (h2 x h.1)
def LoopZ (l : List Int) (t : Nat) (a1 a2 : Int) : Prop := a1 ∈ l ∧ a2 ∈ l ∧ ∀ (j : Nat) (p : Int), j < t → l[j]? = some p → a1 ≤ p ∧ p ≤ a2
theorem LoopZ.step {l : List Int} {t : Nat} {a1 a2 a b1 b2 : Int} (h : LoopZ l t a1 a2) (hp : l[t]? = some a) (m1 : b1 ∈ l) (m2 : b2 ∈ l) (x1 : b1 ≤ a1) (x2 : b1 ≤ a) (y1 : a2 ≤ b2) (y2 : a ≤ b2) : LoopZ l (t + 1) b1 b2 := by
  refine ⟨m1, m2, fun j p hj hjp => ?_⟩
  rcases Nat.lt_or_ge j t with h1 | h1
  · have := h.2.2 j p h1 hjp
    exact ⟨Int.le_trans x1 this.1, Int.le_trans this.2 y1⟩
  · obtain rfl : j = t := by omega
    rw [hp] at hjp
    obtain rfl := Option.some.inj hjp
    exact ⟨x2, y2⟩
theorem LoopZ.all {l : List Int} {a1 a2 : Int} {n : Nat} (hn : l.length = n) (h : LoopZ l n a1 a2) : (∀ q ∈ l, a1 ≤ q) ∧ ∀ q ∈ l, q ≤ a2 := by
  constructor <;> intro q hq <;> obtain ⟨j, hj, e⟩ := List.getElem_of_mem hq
  · exact (h.2.2 j q (by omega) (by rw [← e]; exact List.getElem?_eq_getElem hj)).1
  · exact (h.2.2 j q (by omega) (by rw [← e]; exact List.getElem?_eq_getElem hj)).2
theorem Lq.twoZ {w0 w : World} {ns : List (Value × Nat)} {zs : List (Value × Int)} {qs : List (Value × Int × Nat)} {bs : List (Nat × TypeId × Array Value)} (h : Lq w0 w ns zs qs bs) {p q : Value × Int} {b c : Nat × TypeId × Array Value} (hp : p ∈ zs) (hq : q ∈ zs) (hb : b ∈ bs) (hc : c ∈ bs) : Lq w0 w [] [p, q] [] [b, c] :=
  ⟨h.below, fun _ x => (by cases x), fun x hx => h.zs x (by simp only [List.mem_cons, List.not_mem_nil, or_false] at hx; rcases hx with rfl | rfl <;> assumption), fun _ x => (by cases x), fun x hx => h.bs x (by simp only [List.mem_cons, List.not_mem_nil, or_false] at hx; rcases hx with rfl | rfl <;> assumption)⟩
theorem cmpI_lt0 {x y : Int} : cmpI x y < 0 ↔ x < y := by
  unfold cmpI
  (repeat' split) <;> omega
theorem cmpI_gt0 {x y : Int} : 0 < cmpI x y ↔ y < x := by
  unfold cmpI
  (repeat' split) <;> omega

set_option maxHeartbeats 16000000 in
theorem s13hull_any (l : List Int) (lo hi n : Int) (vl vn : Value) (w : World) (hl : RowZ w vl l) (hn : IsZ w vn n) (h0 : 0 < l.length) (hsz : l.length ≤ 1000) (hb : ∀ p ∈ l, zl p ≤ 10000) (hlo : IsLstZ lo l) (hhi : IsMstZ hi l) (ln : zl n ≤ 10000) (hn0 : 0 < n) :
    Calls Tryz.prog 126 #[vl, vn] w (RetSp w (lo / n) (cdv hi n)) := by
  obtain ⟨g, c, rfl, hg, hrow⟩ := hl
  obtain ⟨N, cn, rfl, _⟩ := hn.form
  have HB := Lib.hid hb
  have HLO := Lib.hid hlo
  have HHI := Lib.hid hhi
  have k1 := hb lo hlo.1
  have k2 := hb hi hhi.1
  have o1 := fun v u W h k => s13overD_any lo n v u W h k (by omega) (by omega) hn0
  have o2 := fun v u W h k => s13overU_any hi n v u W h k (by omega) (by omega) hn0
  obtain ⟨X, hX⟩ : ∃ z, lo / n = z := ⟨_, rfl⟩
  obtain ⟨Y, hY⟩ : ∃ z, cdv hi n = z := ⟨_, rfl⟩
  rw [hX] at o1 ⊢
  rw [hY] at o2 ⊢
  have O1 := Lib.hid o1
  have O2 := Lib.hid o2
  clear o1 o2 hX hY k1 k2
  clear hb hlo hhi hn0
  obtain ⟨a0, hp0⟩ : ∃ p, l[0]? = some p := ⟨l[0], List.getElem?_eq_getElem h0⟩
  obtain ⟨A0, c0, r0, r1, r3⟩ := hrow 0 _ hp0
  have HM0 := Lib.hid (List.mem_of_getElem? hp0)
  rw [Nat.mul_zero] at r0 r1
  obtain ⟨k, hk⟩ : ∃ k, l.length = k := ⟨_, rfl⟩
  rw [hk] at h0 hsz ⊢
  have hk0 : (0 : Int) < (k : Int) := by omega
  have HN := Lib.hid hk
  have HROW0 := Lib.hid hrow
  clear hp0 hk hrow
  go_enter Tryz.func126, Tryz.ntmps126
  go_wp2_with fail
  have L := (((((Lq.mk0 w).z hn).z r3).varZ (w.heap.size) (by simp) (ng n) N (zl n) cn).varS (w.heap.size + 1) (by simp) false none 0 0 false none 0 0)
  have c00 := L.b0.c40
  have f00 := L.b0.fr 0
  have c01 := L.b0.c41
  have f01 := L.b0.fr 1
  have c02 := L.b0.c42
  have f02 := L.b0.fr 2
  have c03 := L.b0.c43
  have f03 := L.b0.fr 3
  have c10 := L.tl.b0.c20
  have c11 := L.tl.b0.c21
  (try go_wp2_with fail)
  clear c00 f00 c01 f01 c02 f02 c03 f03 c10 c11
  obtain ⟨V, hV⟩ : ∃ V, (w.alloc (.cells #[.bool (ng n), .slice N (zl n) cn] 27)).alloc (.cells #[.bool false, .slice none 0 0, .bool false, .slice none 0 0] 57) = V := ⟨_, rfl⟩
  rw [hV] at L ⊢
  clear hV
  have hwV := L.b0.lt
  have hgV : g < V.heap.size := by omega
  have HROW := Lib.hid (fun Z (hZ : Below V.heap.size V Z) (j : Nat) (p : Int) (hp : l[j]? = some p) => (show ∃ A c, Z.cell? ⟨g, 2 * j, none⟩ = some (.bool (ng p)) ∧ Z.cell? ⟨g, 2 * j + 1, none⟩ = some (.slice A (zl p) c) ∧ IsZ Z (.agg #[.bool (ng p), .slice A (zl p) c]) p from by
    obtain ⟨A, c, x1, x2, x4⟩ := HROW0.out j p hp
    have hbz := L.below.trans (hZ.mono L.below.size)
    exact ⟨A, c, (hbz.cell (p := ⟨g, 2 * j, none⟩) hg).trans x1, (hbz.cell (p := ⟨g, 2 * j + 1, none⟩) hg).trans x2, x4.mono hbz⟩))
  have q0 := (L.below.cell (p := ⟨g, 0, none⟩) hg).trans r0
  have q1 := (L.below.cell (p := ⟨g, 0 + 1, none⟩) hg).trans r1
  rw [Nat.zero_add] at q1
  have Q0 := Lib.hid (fun Z (hZ : Below V.heap.size V Z) => (hZ.cell (p := ⟨g, 0, none⟩) hgV).trans q0)
  have Q1 := Lib.hid (fun Z (hZ : Below V.heap.size V Z) => (hZ.cell (p := ⟨g, 1, none⟩) hgV).trans q1)
  clear q0 q1 r0 r1 r3 HROW0 hn
  have D0 : Dq V V [] [(.agg #[.bool (ng a0), .slice A0 (zl a0) c0], a0)] [] [] := ⟨(Lq.mk0 V).z (L.getZ (by simp)), List.nodup_nil, fun p hp => by cases hp⟩
  have D := D0.drew
  have LL := Lib.hid L
  clear L
  obtain ⟨K, hK⟩ : ∃ K, V.heap.size = K := ⟨_, rfl⟩
  have hz0 : K ≤ V.heap.size := by omega
  have hcg : g < K := by omega
  have hmd : V.drew.heap.size = K := hK
  go_cut [5, 6] from 9 to 14 (fun s6 s7 wx => Made2Z V a0 a0 s6 s7 wx)
  case first =>
    go_region_held3 (fun w' => w'.cell? ⟨g, 0, none⟩ = some (.bool (ng a0)) ∧ w'.cell? ⟨g, 1, none⟩ = some (.slice A0 (zl a0) c0)) (((try dsimp only); refine ⟨?_, ?_⟩ <;> (repeat (first | (with_reducible exact Q0.out _ D.lq.below) | (with_reducible exact Q0.out _ D0.lq.below) | (with_reducible exact Q1.out _ D.lq.below) | (with_reducible exact Q1.out _ D0.lq.below) | (with_reducible refine c_alloc _ ?_) | (with_reducible refine c_drew ?_) | (with_reducible refine c_set ?_ (by assumption) ?_) | omega)))) (fail)
    all_goals
      go_wp2_with fail
      go_meet
      have E1 := (D0.boxZ2 (ng a0) A0 (zl a0) c0 (ng a0) A0 (zl a0) c0).drew
      rw [hK] at E1
      first
      | exact made2z_of E1.swap (by simp) (by simp)
      | exact made2z_of E1 (by simp) (by simp)
  case rest =>
    obtain ⟨g5, g6, A1, c1, A2, c2, rfl, rfl, hg5, hg6, hg56, bw, hb1, hb2, hq1, hq2⟩ := hcut
    have L := (((((Lq.mk0 V).step bw).z hq2).z hq1).b hb2).b hb1
    clear D D0 hmd hz0 hK hb1 hb2 hq1 hq2 bw Q0 Q1 hcg
    generalize wc = wd at *
    have HF := Lib.hid (show LoopZ l 0 a0 a0 from ⟨HM0.out, HM0.out, fun j p hj => absurd hj (Nat.not_lt_zero j)⟩)
    (try go_wp2_with fail)
    go_loopw [17] (fun i wr => ∃ (t : Nat) (a1 : Int) (A1 : Option Addr) (c1 : Nat) (a2 : Int) (A2 : Option Addr) (c2 : Nat), i = .int .i64 (t : Int) ∧ t ≤ k ∧ Lq V wr [] [(.agg #[.bool (ng a1), .slice A1 (zl a1) c1], a1), (.agg #[.bool (ng a2), .slice A2 (zl a2) c2], a2)] [] [(g5, 27, #[.bool (ng a1), .slice A1 (zl a1) c1]), (g6, 27, #[.bool (ng a2), .slice A2 (zl a2) c2])] ∧ Hid (LoopZ l t a1 a2)) (fun i _ => k - (intOf i).toNat)
    case atStart => exact ⟨0, a0, A1, c1, a0, A2, c2, rfl, by omega, L, HF⟩
    case round =>
      clear L HF
      obtain ⟨t, a1, A1, c1, a2, A2, c2, rfl, ht, L, HF⟩ := hrel
      rcases Nat.eq_or_lt_of_le ht with rfl | ht3
      · have ha := HF.out.all HN.out
        have el := lst_eq HLO.out HF.out.1 ha.1
        have eh := mst_eq HHI.out HF.out.2.1 ha.2
        subst el eh
        have hv6 := L.tl.b0
        have hv5 := L.b0
        have L := (((((LL.out.step L.below).z (L.getZ (v := .agg #[.bool (ng a2), .slice A2 (zl a2) c2]) (x := a2) (by simp))).z (L.getZ (v := .agg #[.bool (ng a1), .slice A1 (zl a1) c1]) (x := a1) (by simp))).b hv6).b hv5).pull2
        clear hv5 hv6 HF HROW LL
        have e1 : w.heap.size + 1 ≠ g5 := by omega
        have e2 : w.heap.size + 1 ≠ g6 := by omega
        (try go_wp2_with fail)
        replace L := L.drew
        have c00 := L.b0.c40
        have f00 := L.b0.fr 0
        have c01 := L.b0.c41
        have f01 := L.b0.fr 1
        have c02 := L.b0.c42
        have f02 := L.b0.fr 2
        have c03 := L.b0.c43
        have f03 := L.b0.fr 3
        have c10 := L.tl.b0.c20
        have c11 := L.tl.b0.c21
        have c20 := L.tl.tl.b0.c20
        have c21 := L.tl.tl.b0.c21
        have c30 := L.tl.tl.tl.b0.c20
        have c31 := L.tl.tl.tl.b0.c21
        go_region_held3 (fun w' => w'.cell? ⟨g5, 0, none⟩ = some (.bool (ng a1)) ∧ w'.cell? ⟨g5, 1, none⟩ = some (.slice A1 (zl a1) c1) ∧ w'.cell? ⟨g6, 0, none⟩ = some (.bool (ng a2)) ∧ w'.cell? ⟨g6, 1, none⟩ = some (.slice A2 (zl a2) c2) ∧ w'.cell? ⟨w.heap.size, 0, none⟩ = some (.bool (ng n)) ∧ w'.cell? ⟨w.heap.size, 1, none⟩ = some (.slice N (zl n) cn)) (first | (with_reducible exact ⟨L.tl.b0.c20, L.tl.b0.c21, L.tl.tl.b0.c20, L.tl.tl.b0.c21, L.tl.tl.tl.b0.c20, L.tl.tl.tl.b0.c21⟩) | (have LP := L.putS (by omega) (by first | (simp; done) | (simp; omega)) (ng X) A8 (zl X) c8 (ng Y) A9 (zl Y) c9; unfold put4 at LP; with_reducible exact ⟨LP.tl.b0.c20, LP.tl.b0.c21, LP.tl.tl.b0.c20, LP.tl.tl.b0.c21, LP.tl.tl.tl.b0.c20, LP.tl.tl.tl.b0.c21⟩) | exact ⟨L.tl.b0.c20, L.tl.b0.c21, L.tl.tl.b0.c20, L.tl.tl.b0.c21, L.tl.tl.tl.b0.c20, L.tl.tl.tl.b0.c21⟩) (first | (go_at_call 167; (with_reducible refine (O1.out _ _ _ ?_ ?_ ).mono ?_); (· (refine L.getZ ?_; (repeat (first | (with_reducible exact List.mem_cons_self) | apply List.mem_cons_of_mem)))); (· (refine L.getZ ?_; (repeat (first | (with_reducible exact List.mem_cons_self) | apply List.mem_cons_of_mem)))); rintro e wh ⟨vh, rfl, iz, be⟩; obtain ⟨A8, c8, rfl, in9⟩ := iz.form; replace L := (L.step be).n in9; clear be iz in9; (try (have x00 := L.b0.c40; have y00 := L.b0.fr 0; have x01 := L.b0.c41; have y01 := L.b0.fr 1; have x02 := L.b0.c42; have y02 := L.b0.fr 2; have x03 := L.b0.c43; have y03 := L.b0.fr 3))) | (go_at_call 167; (with_reducible refine (O2.out _ _ _ ?_ ?_ ).mono ?_); (· (refine L.getZ ?_; (repeat (first | (with_reducible exact List.mem_cons_self) | apply List.mem_cons_of_mem)))); (· (refine L.getZ ?_; (repeat (first | (with_reducible exact List.mem_cons_self) | apply List.mem_cons_of_mem)))); rintro e wh ⟨vh, rfl, iz, be⟩; obtain ⟨A9, c9, rfl, in9⟩ := iz.form; replace L := (L.step be).n in9; clear be iz in9; (try (have x00 := L.b0.c40; have y00 := L.b0.fr 0; have x01 := L.b0.c41; have y01 := L.b0.fr 1; have x02 := L.b0.c42; have y02 := L.b0.fr 2; have x03 := L.b0.c43; have y03 := L.b0.fr 3))))
        clear c00 f00 c01 f01 c02 f02 c03 f03 c10 c11 c20 c21 c30 c31
        go_wp2_with fail
        have LP := L.putS (by omega) (by first | (simp; done) | (simp; omega)) (ng X) A8 (zl X) c8 (ng Y) A9 (zl Y) c9
        have k0 := LP.b0.c40
        have k1 := LP.b0.c41
        have k2 := LP.b0.c42
        have k3 := LP.b0.c43
        unfold put4 at k0 k1 k2 k3
        exact bodyPost_ret (v := .agg #[.bool (ng X), .slice A8 (zl X) c8, .bool (ng Y), .slice A9 (zl Y) c9]) (by simp [results, Tryz.results126, go_sem, k0, k1, k2, k3]) rfl ⟨_, rfl, isS_n (LP.getN (by simp)) (LP.getN (by simp)), LP.below⟩
      · obtain ⟨a, hp⟩ : ∃ p, l[t]? = some p := ⟨_, List.getElem?_eq_getElem (by rw [HN.out]; exact ht3)⟩
        obtain ⟨A, cc, e0, e1, iq⟩ := HROW.out _ L.below t _ hp
        rw [Nat.mul_comm 2 t] at e0 e1
        have HP := Lib.hid hp
        have hd := HB.out _ (List.mem_of_getElem? hp)
        have hd1 := HB.out _ HF.out.1
        have hd2 := HB.out _ HF.out.2.1
        have z1 := fun v u W h1 h2 => rzcmp_any a a1 v u W h1 h2 (by omega) (by omega)
        have z2 := fun v u W h1 h2 => rzcmp_any a a2 v u W h1 h2 (by omega) (by omega)
        have j1 := cmpI_lt0 (x := a) (y := a1)
        have j2 := cmpI_gt0 (x := a) (y := a2)
        obtain ⟨x1, hx1⟩ : ∃ x, cmpI a a1 = x := ⟨_, rfl⟩
        obtain ⟨x2, hx2⟩ : ∃ x, cmpI a a2 = x := ⟨_, rfl⟩
        rw [hx1] at z1 j1
        rw [hx2] at z2 j2
        have C1 := Lib.hid z1
        have C2 := Lib.hid z2
        have J1 := Lib.hid j1
        have J2 := Lib.hid j2
        have hlt : (t : Int) < (k : Int) := by omega
        have ht0 : (0 : Int) ≤ (t : Int) := by omega
        have hl5 := L.b0.lt
        have hl6 := L.tl.b0.lt
        clear hp z1 z2 j1 j2 hx1 hx2 hd hd1 hd2
        replace L := (L.z iq).varZ wr.heap.size rfl (ng a) A (zl a) cc
        clear iq
        have cel00 := L.b0.c20
        have cel01 := L.b0.c21
        have cel10 := L.tl.b0.c20
        have cel11 := L.tl.b0.c21
        go_wp2_with fail
        obtain ⟨gx, hgx⟩ : ∃ gx, wr.heap.size = gx := ⟨_, rfl⟩
        rw [hgx] at L hl5 hl6 cel00 cel01 ⊢
        clear hgx e0 e1
        have n1 : g5 ≠ gx := by omega
        have n2 : g6 ≠ gx := by omega
        have n3 : g6 ≠ g5 := Ne.symm hg56
        refine (C1.out _ _ _ (L.getZ (v := .agg #[.bool (ng a), .slice A (zl a) cc]) (x := a) (by simp)) (L.getZ (v := .agg #[.bool (ng a1), .slice A1 (zl a1) c1]) (x := a1) (by simp))).mono ?_
        rintro e w21 ⟨rfl, be⟩
        clear cel00 cel01 cel10 cel11
        replace L := L.step be
        clear be
        by_cases y1 : x1 < 0
        · have t1 : decide (x1 < 0) = true := decide_eq_true y1
          have cel00 := L.b0.c20
          have f00 := L.b0.fr 0
          have cel01 := L.b0.c21
          have f01 := L.b0.fr 1
          have cel10 := L.tl.b0.c20
          have f10 := L.tl.b0.fr 0
          have cel11 := L.tl.b0.c21
          have f11 := L.tl.b0.fr 1
          have P := (L.swap.putZ hg5 (by simp [n1, n2, n3, Ne.symm n1]) (ng a) A (zl a) cc).swap
          have p0 := P.b0.c20
          have p1 := P.b0.c21
          have p3 := P.tl.tl.b0.c20
          have p4 := P.tl.tl.b0.c21
          unfold put2 at p0 p1 p3 p4 P
          replace L := P
          go_wp2_with fail
          refine (C2.out _ _ _ (L.getZ (v := .agg #[.bool (ng a), .slice A (zl a) cc]) (x := a) (by simp)) (L.getZ (v := .agg #[.bool (ng a2), .slice A2 (zl a2) c2]) (x := a2) (by simp))).mono ?_
          rintro e w22 ⟨rfl, be⟩
          replace L := L.step be
          clear be
          by_cases y2 : 0 < x2
          · have t2 : decide (0 < x2) = true := decide_eq_true y2
            have cel00 := L.b0.c20
            have f00 := L.b0.fr 0
            have cel01 := L.b0.c21
            have f01 := L.b0.fr 1
            have cel20 := L.tl.tl.b0.c20
            have f20 := L.tl.tl.b0.fr 0
            have cel21 := L.tl.tl.b0.c21
            have f21 := L.tl.tl.b0.fr 1
            have P := (L.pull2.putZ hg6 (by simp [n1, n2, n3, Ne.symm n1, Ne.symm n2, Ne.symm n3]) (ng a) A (zl a) cc)
            unfold put2 at P
            replace L := P
            go_wp2_with fail
            go_roundw
            case rel => exact ⟨t + 1, a, A, cc, a, A, cc, by go_num, by omega, L.twoZ (by simp) (by simp) (by simp) (by simp), Lib.hid (HF.out.step HP.out (List.mem_of_getElem? HP.out) (List.mem_of_getElem? HP.out) (Int.le_of_lt (J1.out.1 y1)) (Int.le_refl _) (Int.le_of_lt (J2.out.1 y2)) (Int.le_refl _))⟩
            case measure => simp [intOf]; omega
          · have t2 : decide (0 < x2) = false := decide_eq_false y2
            have cel00 := L.b0.c20
            have f00 := L.b0.fr 0
            have cel01 := L.b0.c21
            have f01 := L.b0.fr 1
            have cel20 := L.tl.tl.b0.c20
            have f20 := L.tl.tl.b0.fr 0
            have cel21 := L.tl.tl.b0.c21
            have f21 := L.tl.tl.b0.fr 1
            go_wp2_with fail
            go_roundw
            case rel => exact ⟨t + 1, a, A, cc, a2, A2, c2, by go_num, by omega, L.twoZ (by simp) (by simp) (by simp) (by simp), Lib.hid (HF.out.step HP.out (List.mem_of_getElem? HP.out) HF.out.2.1 (Int.le_of_lt (J1.out.1 y1)) (Int.le_refl _) (Int.le_refl _) (Int.not_lt.1 (fun h => absurd (J2.out.2 h) (by omega))))⟩
            case measure => simp [intOf]; omega
        · have t1 : decide (x1 < 0) = false := decide_eq_false y1
          have cel00 := L.b0.c20
          have f00 := L.b0.fr 0
          have cel01 := L.b0.c21
          have f01 := L.b0.fr 1
          have cel20 := L.tl.tl.b0.c20
          have cel21 := L.tl.tl.b0.c21
          go_wp2_with fail
          refine (C2.out _ _ _ (L.getZ (v := .agg #[.bool (ng a), .slice A (zl a) cc]) (x := a) (by simp)) (L.getZ (v := .agg #[.bool (ng a2), .slice A2 (zl a2) c2]) (x := a2) (by simp))).mono ?_
          rintro e w22 ⟨rfl, be⟩
          replace L := L.step be
          clear be
          by_cases y2 : 0 < x2
          · have t2 : decide (0 < x2) = true := decide_eq_true y2
            have cel00 := L.b0.c20
            have f00 := L.b0.fr 0
            have cel01 := L.b0.c21
            have f01 := L.b0.fr 1
            have cel20 := L.tl.tl.b0.c20
            have f20 := L.tl.tl.b0.fr 0
            have cel21 := L.tl.tl.b0.c21
            have f21 := L.tl.tl.b0.fr 1
            have P := (L.pull2.putZ hg6 (by simp [n1, n2, n3, Ne.symm n1, Ne.symm n2, Ne.symm n3]) (ng a) A (zl a) cc)
            unfold put2 at P
            replace L := P
            go_wp2_with fail
            go_roundw
            case rel => exact ⟨t + 1, a1, A1, c1, a, A, cc, by go_num, by omega, L.twoZ (by simp) (by simp) (by simp) (by simp), Lib.hid (HF.out.step HP.out HF.out.1 (List.mem_of_getElem? HP.out) (Int.le_refl _) (Int.not_lt.1 (fun h => absurd (J1.out.2 h) (by omega))) (Int.le_of_lt (J2.out.1 y2)) (Int.le_refl _))⟩
            case measure => simp [intOf]; omega
          · have t2 : decide (0 < x2) = false := decide_eq_false y2
            have cel00 := L.b0.c20
            have f00 := L.b0.fr 0
            have cel01 := L.b0.c21
            have f01 := L.b0.fr 1
            have cel20 := L.tl.tl.b0.c20
            have f20 := L.tl.tl.b0.fr 0
            have cel21 := L.tl.tl.b0.c21
            have f21 := L.tl.tl.b0.fr 1
            go_wp2_with fail
            go_roundw
            case rel => exact ⟨t + 1, a1, A1, c1, a2, A2, c2, by go_num, by omega, L.twoZ (by simp) (by simp) (by simp) (by simp), Lib.hid (HF.out.step HP.out HF.out.1 HF.out.2.1 (Int.le_refl _) (Int.not_lt.1 (fun h => absurd (J1.out.2 h) (by omega))) (Int.le_refl _) (Int.not_lt.1 (fun h => absurd (J2.out.2 h) (by omega))))⟩
            case measure => simp [intOf]; omega

end Go.Proofs.YtfnklkdbieikeaaGreatDoor
