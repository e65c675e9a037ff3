/- Joined: ArPD, ArPE, CpS, ConstantSquaresWalk (what the law leans on). -/
import Derived.Test.YtfnklkdbieikeaaGreatDoorBaseE
import Derived.Test.YtfnklkdbieikeaaGreatDoorBaseW
import Derived.Test.YtfnklkdbieikeaaGreatDoorBaseX
import Derived.Test.YtfnklkdbieikeaaGreatDoorBaseZ
import Derived.Test.YtfnklkdbieikeaaGreatDoorJQ4
import Derived.Test.YtfnklkdbieikeaaGreatDoorJQ6
import Derived.Test.YtfnklkdbieikeaaGreatDoorJQ8
import Derived.Deep.Cut
import Derived.Deep.CutRange
import Derived.Deep.DrawnRows
import Derived.Deep.RegionHeld3
namespace Go.Proofs.YtfnklkdbieikeaaGreatDoor
open Go.RowKit
set_option linter.unusedVariables false
set_option linter.unusedSimpArgs false
set_option maxRecDepth 100000
attribute [local go_sem ↓] Go.wp_at_zero Go.wp_at_succ

/-- A slice of pairs of dyadics: what its elements stand for. -/
def RowI (w : World) (v : Value) (l : List (Int × Int × Int × Int)) : Prop := ∃ g c, v = .slice (some ⟨g, 0, none⟩) l.length c ∧ g < w.heap.size ∧ ∀ (j : Nat) (p : Int × Int × Int × Int), l[j]? = some p → ∃ A c B d, w.cell? ⟨g, 6 * j, none⟩ = some (.bool (ng p.1)) ∧ w.cell? ⟨g, 6 * j + 1, none⟩ = some (.slice A (zl p.1) c) ∧ w.cell? ⟨g, 6 * j + 2, none⟩ = some (.int .i64 p.2.1) ∧ w.cell? ⟨g, 6 * j + 3, none⟩ = some (.bool (ng p.2.2.1)) ∧ w.cell? ⟨g, 6 * j + 4, none⟩ = some (.slice B (zl p.2.2.1) d) ∧ w.cell? ⟨g, 6 * j + 5, none⟩ = some (.int .i64 p.2.2.2) ∧ IsN w (.slice A (zl p.1) c) p.1.natAbs ∧ IsN w (.slice B (zl p.2.2.1) d) p.2.2.1.natAbs
theorem RowI.at {w w' : World} {g c n : Nat} {l : List (Int × Int × Int × Int)} (h : RowI w (.slice (some ⟨g, 0, none⟩) n c) l) (hb : Below w.heap.size w w') {j : Nat} {p : Int × Int × Int × Int} (hp : l[j]? = some p) : ∃ A c B d, w'.cell? ⟨g, 6 * j, none⟩ = some (.bool (ng p.1)) ∧ w'.cell? ⟨g, 6 * j + 1, none⟩ = some (.slice A (zl p.1) c) ∧ w'.cell? ⟨g, 6 * j + 2, none⟩ = some (.int .i64 p.2.1) ∧ w'.cell? ⟨g, 6 * j + 3, none⟩ = some (.bool (ng p.2.2.1)) ∧ w'.cell? ⟨g, 6 * j + 4, none⟩ = some (.slice B (zl p.2.2.1) d) ∧ w'.cell? ⟨g, 6 * j + 5, none⟩ = some (.int .i64 p.2.2.2) ∧ IsN w' (.slice A (zl p.1) c) p.1.natAbs ∧ IsN w' (.slice B (zl p.2.2.1) d) p.2.2.1.natAbs := by
  obtain ⟨g', c', r, hg, h⟩ := h
  simp only [Value.slice.injEq, Option.some.injEq, Addr.mk.injEq, and_true] at r
  obtain ⟨rfl, _, _⟩ := r
  obtain ⟨A, c, B, d, h0, h1, h2, h3, h4, h5, h6, h7⟩ := h j p hp
  exact ⟨A, c, B, d, (hb.cell (p := ⟨g, 6 * j, none⟩) hg).trans h0, (hb.cell (p := ⟨g, 6 * j + 1, none⟩) hg).trans h1, (hb.cell (p := ⟨g, 6 * j + 2, none⟩) hg).trans h2, (hb.cell (p := ⟨g, 6 * j + 3, none⟩) hg).trans h3, (hb.cell (p := ⟨g, 6 * j + 4, none⟩) hg).trans h4, (hb.cell (p := ⟨g, 6 * j + 5, none⟩) hg).trans h5, h6.mono hb, h7.mono hb⟩
theorem lit3_cells (w : World) (a b c : Value) (ty : TypeId) (g : Nat) (hg : w.heap.size = g) : ∀ (j : Nat) (u : Value), [a, b, c][j]? = some u → (w.alloc (.cells #[a, b, c] ty)).cell? ⟨g, j, none⟩ = some u := fun j u hj => by
  subst hg
  rw [cell_of_row _ w.heap.size j #[a, b, c] ty _ (heap_alloc_new w _)]
  simpa using hj
theorem take_next {l : List (Int × Int × Int × Int)} {r : Int × Int × Int × Int → Int × Int} {t : Nat} {p : Int × Int × Int × Int} {q : Int × Int} (hp : l[t]? = some p) (hr : r p = q) : (l.map r).take (t + 1) = (l.map r).take t ++ [q] := by
  rw [List.take_add_one, List.getElem?_map, hp]
  simp [hr]
/-- The least and the greatest of the results. -/
theorem lst_is {l : List (Int × Int × Int × Int)} {r : Int × Int × Int × Int → Int × Int} {lo : Rat} {m e : Int} (h : (∃ p ∈ l, dOf (r p) = lo) ∧ ∀ p ∈ l, lo ≤ dOf (r p)) (hm : (m, e) ∈ l.map r) (hle : ∀ q ∈ l.map r, dOf (m, e) ≤ dOf q) : dq m e = lo := by
  obtain ⟨⟨p, hp, e1⟩, h2⟩ := h
  obtain ⟨q, hq, e2⟩ := List.mem_map.1 hm
  refine Rat.le_antisymm ?_ ?_
  · rw [← e1]; exact hle _ (List.mem_map.2 ⟨p, hp, rfl⟩)
  · have := h2 q hq
    rw [e2] at this
    exact this
theorem mst_is {l : List (Int × Int × Int × Int)} {r : Int × Int × Int × Int → Int × Int} {hi : Rat} {m e : Int} (h : (∃ p ∈ l, dOf (r p) = hi) ∧ ∀ p ∈ l, dOf (r p) ≤ hi) (hm : (m, e) ∈ l.map r) (hle : ∀ q ∈ l.map r, dOf q ≤ dOf (m, e)) : dq m e = hi := by
  obtain ⟨⟨p, hp, e1⟩, h2⟩ := h
  obtain ⟨q, hq, e2⟩ := List.mem_map.1 hm
  refine Rat.le_antisymm ?_ ?_
  · have := h2 q hq
    rw [e2] at this
    exact this
  · rw [← e1]; exact hle _ (List.mem_map.2 ⟨p, hp, rfl⟩)

set_option maxHeartbeats 16000000 in
theorem acomb_any (kop : Nat) (hen : ∀ args w, (callFunc kop args).run Tryz.prog w = .ok (.enter kop args) w) (l : List (Int × Int × Int × Int)) (r : Int × Int × Int × Int → Int × Int) (lo hi : Rat) (k : Int) (vl : Value) (w : World) (hl : RowI w vl l) (h0 : 0 < l.length) (hsz : l.length ≤ 1000) (hop : ∀ p ∈ l, ∀ vx vy W, IsD W vx p.1 p.2.1 → IsD W vy p.2.2.1 p.2.2.2 → Below w.heap.size w W → Calls Tryz.prog kop #[vx, vy] W (RetDE W (r p).1 (r p).2 0)) (hrb : ∀ p ∈ l, zl (r p).1 ≤ 500 ∧ (-10000 ≤ (r p).2 ∧ (r p).2 ≤ 10000)) (hlo : (∃ p ∈ l, dOf (r p) = lo) ∧ ∀ p ∈ l, lo ≤ dOf (r p)) (hhi : (∃ p ∈ l, dOf (r p) = hi) ∧ ∀ p ∈ l, dOf (r p) ≤ hi) (hk1 : -9223372036854775808 ≤ k) (hk2 : k ≤ 9223372036854775807) (hT : Tab w) :
    Calls Tryz.prog 51 #[.func (.func kop) #[] #[], .int .i64 k, vl] w (RetEn w lo hi k) := by
  obtain ⟨g, c, rfl, hg, _⟩ := id hl
  have HW0 := fun W => aperm_any k W
  have HROWI := Lib.hid hl
  have HOP := Lib.hid hop
  have HRB := Lib.hid hrb
  have HLO := Lib.hid hlo
  have HHI := Lib.hid hhi
  have HT := Lib.hid (fun W (hW : Below w.heap.size w W) => hT.mono hW)
  clear hl hop hrb hlo hhi hT
  cases hw : workB k
  · rw [hw] at HW0
    have HW := Lib.hid HW0
    have HWK := Lib.hid hw
    clear HW0 hw
    go_enter Tryz.func51, Tryz.ntmps51
    go_wp2_with fail
    have L := ((Lq.mk0 w).varI (w.heap.size) (by simp) false none 0 0 0 false none 0 0 0)
    have c00 := L.b0.c60
    have f00 := L.b0.fr 0
    have c01 := L.b0.c61
    have f01 := L.b0.fr 1
    have c02 := L.b0.c62
    have f02 := L.b0.fr 2
    have c03 := L.b0.c63
    have f03 := L.b0.fr 3
    have c04 := L.b0.c64
    have f04 := L.b0.fr 4
    have c05 := L.b0.c65
    have f05 := L.b0.fr 5
    (try go_wp2_with fail)
    refine (HW.out _).mono ?_
    rintro e9 w' ⟨rfl, rfl⟩
    (try go_wp2_with fail)
    exact bodyPost_ret (v := .tuple #[.agg #[.bool false, .slice none 0 0, .int .i64 0, .bool false, .slice none 0 0, .int .i64 0], .int .i64 1]) (by simp [results, Tryz.results51, go_sem, c00, c01, c02, c03, c04, c05]) rfl (by unfold RetEn; rw [if_neg (by rw [HWK.out]; decide)]; exact ⟨_, rfl, isI_zero _, L.below⟩)
  · rw [hw] at HW0
    have HW := Lib.hid HW0
    have HWK := Lib.hid hw
    obtain ⟨n, hn⟩ : ∃ n, l.length = n := ⟨_, rfl⟩
    rw [hn] at h0 hsz ⊢
    have HN := Lib.hid hn
    have hn0 : (0 : Int) < (n : Int) := by omega
    clear HW0 hw hn
    go_enter Tryz.func51, Tryz.ntmps51
    go_wp2_with fail
    have L := ((Lq.mk0 w).varI (w.heap.size) (by simp) false none 0 0 0 false none 0 0 0)
    have c00 := L.b0.c60
    have f00 := L.b0.fr 0
    have c01 := L.b0.c61
    have f01 := L.b0.fr 1
    have c02 := L.b0.c62
    have f02 := L.b0.fr 2
    have c03 := L.b0.c63
    have f03 := L.b0.fr 3
    have c04 := L.b0.c64
    have f04 := L.b0.fr 4
    have c05 := L.b0.c65
    have f05 := L.b0.fr 5
    (try go_wp2_with fail)
    refine (HW.out _).mono ?_
    rintro e9 w' ⟨rfl, rfl⟩
    (try go_wp2_with fail)
    clear c00 f00 c01 f01 c02 f02 c03 f03 c04 f04 c05 f05
    obtain ⟨V, hV⟩ : ∃ V, w.alloc (.cells #[.bool false, .slice none 0 0, .int .i64 0, .bool false, .slice none 0 0, .int .i64 0] 31) = V := ⟨_, rfl⟩
    rw [hV] at L ⊢
    clear hV
    have hwV := L.b0.lt
    have LL := Lib.hid L
    clear L
    go_loopw [8, 21] (fun s i wr => ∃ t : Nat, i = .int .i64 (t : Int) ∧ t ≤ n ∧ Below V.heap.size V wr ∧ OwnDy wr V.heap.size s ((l.map r).take t)) (fun _ i _ => n - (intOf i).toNat)
    case atStart => exact ⟨0, rfl, by omega, Below.refl _ _, OwnDy.nil _ _⟩
    case round =>
      obtain ⟨t, rfl, ht, hbe, hown⟩ := hrel
      have hbs := hbe.size
      rcases Nat.eq_or_lt_of_le ht with rfl | ht3
      · have hln := HN.out
        rw [List.take_of_length_le (by rw [List.length_map]; omega)] at hown
        have hrow := hown.row (by rw [List.length_map]; omega)
        have HMN := Lib.hid (fun W (hW : Below wr.heap.size wr W) => aminf_any (l.map r) _ W (hrow.mono hW) (by rw [List.length_map]; omega) (by rw [List.length_map]; omega) (fun q hq => by obtain ⟨p, hp, rfl⟩ := List.mem_map.1 hq; have := HRB.out p hp; omega))
        have HMX := Lib.hid (fun W (hW : Below wr.heap.size wr W) => amaxf_any (l.map r) _ W (hrow.mono hW) (by rw [List.length_map]; omega) (by rw [List.length_map]; omega) (fun q hq => by obtain ⟨p, hp, rfl⟩ := List.mem_map.1 hq; have := HRB.out p hp; omega))
        have L := LL.out.step hbe
        have hwr : w.heap.size < wr.heap.size := by omega
        clear hown hrow HROWI HOP hln
        go_wp2_with fail
        refine (HMN.out _ (Below.refl _ _)).mono ?_
        rintro e9 w1 ⟨v1, m1, e1, rfl, id, hm1, hle1, be⟩
        have be1 := be
        have x1 := lst_is HLO.out hm1 hle1
        have bd1 : zl m1 ≤ 500 ∧ (-10000 ≤ e1 ∧ e1 ≤ 10000) := by obtain ⟨p, hp, e9⟩ := List.mem_map.1 hm1; have := HRB.out p hp; rw [e9] at this; exact this
        obtain ⟨A8, c8, rfl, _, in9⟩ := id.form
        replace L := (L.step be).n in9
        clear id in9 be hm1 hle1
        go_wp2_with fail
        refine (HMX.out _ be1).mono ?_
        rintro e9 w2 ⟨v2, m2, e2, rfl, id, hm2, hle2, be⟩
        have x2 := mst_is HHI.out hm2 hle2
        have bd2 : zl m2 ≤ 500 ∧ (-10000 ≤ e2 ∧ e2 ≤ 10000) := by obtain ⟨p, hp, e9⟩ := List.mem_map.1 hm2; have := HRB.out p hp; rw [e9] at this; exact this
        obtain ⟨A9, c9, rfl, _, in9⟩ := id.form
        replace L := (L.step be).n in9
        have HEN := Lib.hid (fun v u W h1 h2 (hW : Below w.heap.size w W) => aenclD_any m1 e1 m2 e2 k v u W h1 h2 bd1.1 bd2.1 bd1.2 bd2.2 HWK.out (HT.out W hW))
        rw [x1, x2] at HEN
        clear id in9 be hm2 hle2 x1 x2 bd1 bd2 be1
        have hl2 := L.b0.lt
        replace L := (L.varD w2.heap.size rfl (ng m1) A8 (zl m1) c8 e1).varD (w2.heap.size + 1) (by simp) (ng m2) A9 (zl m2) c9 e2
        have c00 := L.b0.c30
        have c01 := L.b0.c31
        have c02 := L.b0.c32
        have c10 := L.tl.b0.c30
        have c11 := L.tl.b0.c31
        have c12 := L.tl.b0.c32
        go_wp2_with fail
        refine (HEN.out _ _ _ (isD_n (m := m1) (e := e1) (s := .slice A8 (zl m1) c8) (L.getN (by simp))) (isD_n (m := m2) (e := e2) (s := .slice A9 (zl m2) c9) (L.getN (by simp))) L.below).mono ?_
        intro e9 w19 hen
        obtain ⟨v19, er, m9, e9', n9, f9, rfl, ii, be, hback⟩ := hen.form
        obtain ⟨A5, c5, B5, d5, rfl, ia, ib⟩ := ii.form
        replace L := (((L.step be).n ib).n ia).pull2
        clear be ii ia ib hen
        have HBK := Lib.hid hback
        clear hback
        clear c00 c01 c02 c10 c11 c12
        have c00 := L.b0.c60
        have f00 := L.b0.fr 0
        have c01 := L.b0.c61
        have f01 := L.b0.fr 1
        have c02 := L.b0.c62
        have f02 := L.b0.fr 2
        have c03 := L.b0.c63
        have f03 := L.b0.fr 3
        have c04 := L.b0.c64
        have f04 := L.b0.fr 4
        have c05 := L.b0.c65
        have f05 := L.b0.fr 5
        go_wp2_with fail
        have LP := L.putI (by omega) (by first | (simp; done) | (simp; omega)) (ng m9) A5 (zl m9) c5 e9' (ng n9) B5 (zl n9) d5 f9
        have k0' := LP.b0.c60
        have k1' := LP.b0.c61
        have k2' := LP.b0.c62
        have k3' := LP.b0.c63
        have k4' := LP.b0.c64
        have k5' := LP.b0.c65
        unfold put6 at k0' k1' k2' k3' k4' k5'
        exact bodyPost_ret (v := .tuple #[.agg #[.bool (ng m9), .slice A5 (zl m9) c5, .int .i64 e9', .bool (ng n9), .slice B5 (zl n9) d5, .int .i64 f9], .int .i64 er]) (by simp [results, Tryz.results51, go_sem, k0', k1', k2', k3', k4', k5']) rfl (HBK.out _ _ _ (isI_n (LP.getN (by simp)) (LP.getN (by simp))) LP.below)
      · obtain ⟨⟨m, e, n', f'⟩, hp⟩ : ∃ p, l[t]? = some p := ⟨_, List.getElem?_eq_getElem (by rw [HN.out]; exact ht3)⟩
        obtain ⟨⟨M, E⟩, hr⟩ : ∃ q, r (m, e, n', f') = q := ⟨_, rfl⟩
        have HNX := Lib.hid (take_next hp hr)
        have hbw : Below w.heap.size w wr := LL.out.below.trans (hbe.mono LL.out.below.size)
        obtain ⟨A, c', B, d, y0, y1, y2, y3, y4, y5, i1, i2⟩ := HROWI.out.at hbw hp
        have HO2 := Lib.hid (fun v u W h1 h2 (hW : Below wr.heap.size wr W) => HOP.out _ (List.mem_of_getElem? hp) v u W h1 h2 (hbw.trans (hW.mono hbw.size)))
        dsimp only at y0 y1 y2 y3 y4 y5 i1 i2 HO2
        rw [hr] at HO2
        dsimp only at HO2
        rw [Nat.mul_comm 6 t] at y0 y1 y2 y3 y4 y5
        have HOWN := Lib.hid hown
        have hlt : (t : Int) < (n : Int) := by omega
        have htz : (0 : Int) ≤ (t : Int) := by omega
        clear hown hp hr
        have L := (((Lq.mk0 wr).n i2).n i1).var wr.heap.size rfl 75 #[.bool (ng m), .slice A (zl m) c', .int .i64 e, .bool (ng n'), .slice B (zl n') d, .int .i64 f'] (plain6 _ _ _ _ _ _ _ _ _ _)
        have c00 := L.b0.c60
        have c01 := L.b0.c61
        have c02 := L.b0.c62
        have c03 := L.b0.c63
        have c04 := L.b0.c64
        have c05 := L.b0.c65
        go_wp2_with fail
        clear y0 y1 y2 y3 y4 y5
        refine (HO2.out _ _ _ (isD_n (m := m) (e := e) (s := .slice A (zl m) c') (L.getN (by simp))) (isD_n (m := n') (e := f') (s := .slice B (zl n') d) (L.getN (by simp))) L.below).mono ?_
        rintro e w1 ⟨vv, rfl, id, be⟩
        clear c00 c01 c02 c03 c04 c05
        obtain ⟨A8, c8, rfl, _, in9⟩ := id.form
        replace L := (L.step be).n in9
        clear be id in9
        have hl8 := L.b0.lt
        replace L := L.varD w1.heap.size rfl (ng M) A8 (zl M) c8 E
        have c00 := L.b0.c30
        have c01 := L.b0.c31
        have c02 := L.b0.c32
        go_wp2_with (at_builtin; refine wp_appDy _ rfl _ _ rfl V.heap.size _ ((l.map r).take t) rfl (HOWN.out.below (L.below.alloc L.below.size _)) _ 1 rfl (lit3_cells _ _ _ _ _ _ (by simp)) ((L.getN (v := .slice A8 (zl M) c8) (x := M.natAbs) (by simp)).mono ((Below.refl _ _).alloc (Nat.le_refl _) _)) (by rw [List.length_take]; omega) (Nat.le_trans hbs (Nat.le_trans L.below.size (by simp))) ?_)
        intro v2 w2 h2 g2 _
        have b2 : Below V.heap.size V w2 := ((hbe.trans (L.below.mono hbs)).alloc (Nat.le_trans hbs L.below.size) _).grown g2 (Nat.le_trans hbs (Nat.le_trans L.below.size (by simp))) (fun k hk => HOWN.out.blockGe k hk)
        rw [← HNX.out] at h2
        clear c00 c01 c02
        clear L g2 HOWN HO2
        go_wp2_with fail
        go_roundw
        case rel => exact ⟨t + 1, by go_num, by omega, b2, h2⟩
        case measure => simp [intOf]; omega

theorem plainI_4 (m1 e1 n1 f1 : Int) (A1 B1 : Option Addr) (c1 d1 : Nat) (m2 e2 n2 f2 : Int) (A2 B2 : Option Addr) (c2 d2 : Nat) (m3 e3 n3 f3 : Int) (A3 B3 : Option Addr) (c3 d3 : Nat) (m4 e4 n4 f4 : Int) (A4 B4 : Option Addr) (c4 d4 : Nat) : Plain #[.bool (ng m1), .slice A1 (zl m1) c1, .int .i64 e1, .bool (ng n1), .slice B1 (zl n1) d1, .int .i64 f1, .bool (ng m2), .slice A2 (zl m2) c2, .int .i64 e2, .bool (ng n2), .slice B2 (zl n2) d2, .int .i64 f2, .bool (ng m3), .slice A3 (zl m3) c3, .int .i64 e3, .bool (ng n3), .slice B3 (zl n3) d3, .int .i64 f3, .bool (ng m4), .slice A4 (zl m4) c4, .int .i64 e4, .bool (ng n4), .slice B4 (zl n4) d4, .int .i64 f4] := fun j x => by
  match j with
  | 0 => simp
  | 1 => simp
  | 2 => simp
  | 3 => simp
  | 4 => simp
  | 5 => simp
  | 6 => simp
  | 7 => simp
  | 8 => simp
  | 9 => simp
  | 10 => simp
  | 11 => simp
  | 12 => simp
  | 13 => simp
  | 14 => simp
  | 15 => simp
  | 16 => simp
  | 17 => simp
  | 18 => simp
  | 19 => simp
  | 20 => simp
  | 21 => simp
  | 22 => simp
  | 23 => simp
  | j + 24 => simp
theorem rowI_4 {w : World} {g : Nat} {m1 e1 n1 f1 : Int} {A1 B1 : Option Addr} {c1 d1 : Nat} {m2 e2 n2 f2 : Int} {A2 B2 : Option Addr} {c2 d2 : Nat} {m3 e3 n3 f3 : Int} {A3 B3 : Option Addr} {c3 d3 : Nat} {m4 e4 n4 f4 : Int} {A4 B4 : Option Addr} {c4 d4 : Nat} (hv : Var w g 75 #[.bool (ng m1), .slice A1 (zl m1) c1, .int .i64 e1, .bool (ng n1), .slice B1 (zl n1) d1, .int .i64 f1, .bool (ng m2), .slice A2 (zl m2) c2, .int .i64 e2, .bool (ng n2), .slice B2 (zl n2) d2, .int .i64 f2, .bool (ng m3), .slice A3 (zl m3) c3, .int .i64 e3, .bool (ng n3), .slice B3 (zl n3) d3, .int .i64 f3, .bool (ng m4), .slice A4 (zl m4) c4, .int .i64 e4, .bool (ng n4), .slice B4 (zl n4) d4, .int .i64 f4]) (h1 : IsN w (.slice A1 (zl m1) c1) m1.natAbs) (g1 : IsN w (.slice B1 (zl n1) d1) n1.natAbs) (h2 : IsN w (.slice A2 (zl m2) c2) m2.natAbs) (g2 : IsN w (.slice B2 (zl n2) d2) n2.natAbs) (h3 : IsN w (.slice A3 (zl m3) c3) m3.natAbs) (g3 : IsN w (.slice B3 (zl n3) d3) n3.natAbs) (h4 : IsN w (.slice A4 (zl m4) c4) m4.natAbs) (g4 : IsN w (.slice B4 (zl n4) d4) n4.natAbs) : RowI w (.slice (some ⟨g, 0, none⟩) 4 4) [(m1, e1, n1, f1), (m2, e2, n2, f2), (m3, e3, n3, f3), (m4, e4, n4, f4)] := by
  refine ⟨g, 4, rfl, hv.lt, fun j p hp => ?_⟩
  match j with
  | 0 =>
    obtain rfl : (m1, e1, n1, f1) = p := by simpa using hp
    exact ⟨A1, c1, B1, d1, hv.cell 0, hv.cell 1, hv.cell 2, hv.cell 3, hv.cell 4, hv.cell 5, h1, g1⟩
  | 1 =>
    obtain rfl : (m2, e2, n2, f2) = p := by simpa using hp
    exact ⟨A2, c2, B2, d2, hv.cell 6, hv.cell 7, hv.cell 8, hv.cell 9, hv.cell 10, hv.cell 11, h2, g2⟩
  | 2 =>
    obtain rfl : (m3, e3, n3, f3) = p := by simpa using hp
    exact ⟨A3, c3, B3, d3, hv.cell 12, hv.cell 13, hv.cell 14, hv.cell 15, hv.cell 16, hv.cell 17, h3, g3⟩
  | 3 =>
    obtain rfl : (m4, e4, n4, f4) = p := by simpa using hp
    exact ⟨A4, c4, B4, d4, hv.cell 18, hv.cell 19, hv.cell 20, hv.cell 21, hv.cell 22, hv.cell 23, h4, g4⟩
  | j + 4 => simp at hp
theorem mk_fits3 {m e : Int} (h : zl m ≤ 500) (h1 : -60000 ≤ e) (h2 : e ≤ 40000) : mkR m e = 0 := by
  unfold mkR
  rw [if_neg (by omega)]
  by_cases h0 : m = 0
  · rw [if_pos h0]
  · rw [if_neg h0]
    have ht := tz_le8 m.natAbs (by omega)
    have e1 : zl m = len m.natAbs := rfl
    have hb : blen (oddM m).natAbs ≤ 65536 := by
      have := blen_le_len (oddM m).natAbs
      have h3 := zl_odd m
      have e2 : zl (oddM m) = len (oddM m).natAbs := rfl
      omega
    have ho : bitB (oddM m).natAbs 0 = true := by
      obtain ⟨k, hk⟩ := tz_form (x := m.natAbs) (by omega)
      have hd : m.natAbs / 2 ^ tz m.natAbs = 2 * k + 1 := by
        have := Nat.mul_div_cancel_left (2 * k + 1) (Nat.pow_pos (n := tz m.natAbs) (show 0 < 2 by omega))
        rwa [← hk] at this
      unfold bitB
      rw [oddM_abs, hd, Nat.pow_zero, Nat.div_one]
      exact decide_eq_true (by omega)
    have hf : fits8 (oddM m) (oddE m e) = true := by
      unfold fits8 oddE
      rw [decide_eq_true hb, decide_eq_true (by omega), decide_eq_true (by omega), ho]
      rfl
    rw [hf]
    rfl
theorem prod_ok {m e n f : Int} (lm : zl m ≤ 25) (ln : zl n ≤ 25) (he : -3000 ≤ e ∧ e ≤ 3000) (hf : -3000 ≤ f ∧ f ≤ 3000) : mkR (m * n) (e + f) = 0 ∧ zl (mkM (m * n) (e + f)) ≤ 500 ∧ (-10000 ≤ mkE (m * n) (e + f) ∧ mkE (m * n) (e + f) ≤ 10000) ∧ dOf (mkM (m * n) (e + f), mkE (m * n) (e + f)) = dq m e * dq n f := by
  have z0 := zl_mul m n
  have r0 := mk_fits3 (m := m * n) (e := e + f) (by omega) (by omega) (by omega)
  have z1 := zl_mk (m * n) (e + f)
  have b1 := mkE_le (m := m * n) (e := e + f) (K := 6000) (by omega) (by omega)
  exact ⟨r0, by omega, by omega, (dq_mk r0).trans (dq_mul m e n f)⟩
def mulR (p : Int × Int × Int × Int) : Int × Int := (mkM (p.1 * p.2.2.1) (p.2.1 + p.2.2.2), mkE (p.1 * p.2.2.1) (p.2.1 + p.2.2.2))

set_option maxHeartbeats 16000000 in
theorem amul_any (m e n f m2 e2 n2 f2 k : Int) (vx vy : Value) (w : World) (hx : IsI w vx m e n f) (hy : IsI w vy m2 e2 n2 f2) (lm : zl m ≤ 25) (ln : zl n ≤ 25) (lm2 : zl m2 ≤ 25) (ln2 : zl n2 ≤ 25) (he : -3000 ≤ e ∧ e ≤ 3000) (hf : -3000 ≤ f ∧ f ≤ 3000) (he2 : -3000 ≤ e2 ∧ e2 ≤ 3000) (hf2 : -3000 ≤ f2 ∧ f2 ≤ 3000) (hd1 : dcm m e n f ≤ 0) (hd2 : dcm m2 e2 n2 f2 ≤ 0) (hk1 : -9223372036854775808 ≤ k) (hk2 : k ≤ 9223372036854775807) (hT : Tab w) :
    Calls Tryz.prog 21 #[vx, vy, .int .i64 k] w (RetEn w (min4 (dq m e * dq m2 e2) (dq m e * dq n2 f2) (dq n f * dq m2 e2) (dq n f * dq n2 f2)) (max4 (dq m e * dq m2 e2) (dq m e * dq n2 f2) (dq n f * dq m2 e2) (dq n f * dq n2 f2)) k) := by
  obtain ⟨A, c, B, d, rfl, hn1, hn2⟩ := hx.form
  obtain ⟨A2, k2, B2, d2, rfl, hn3, hn4⟩ := hy.form
  have L0 := ((((Lq.mk0 w).n hn4).n hn3).n hn2).n hn1
  have hen : ∀ args w, (callFunc 52 args).run Tryz.prog w = .ok (.enter 52 args) w := enters_of Tryz.func52 (by kernel_rfl) rfl
  have k0 := prod_ok lm lm2 he he2
  have k1 := prod_ok lm ln2 he hf2
  have k2 := prod_ok ln lm2 hf he2
  have k3 := prod_ok ln ln2 hf hf2
  have hmem : ∀ (P : Int × Int × Int × Int → Prop), P (m, e, m2, e2) → P (m, e, n2, f2) → P (n, f, m2, e2) → P (n, f, n2, f2) → ∀ p ∈ [(m, e, m2, e2), (m, e, n2, f2), (n, f, m2, e2), (n, f, n2, f2)], P p := fun P q0 q1 q2 q3 p hp => by
    simp only [List.mem_cons, List.not_mem_nil, or_false] at hp
    rcases hp with rfl | rfl | rfl | rfl <;> assumption
  have hop : ∀ p ∈ [(m, e, m2, e2), (m, e, n2, f2), (n, f, m2, e2), (n, f, n2, f2)], ∀ vx vy W, IsD W vx p.1 p.2.1 → IsD W vy p.2.2.1 p.2.2.2 → Below w.heap.size w W → Calls Tryz.prog 52 #[vx, vy] W (RetDE W (mulR p).1 (mulR p).2 0) := hmem _
    (fun vx vy W h1 h2 hW => by have := dmul_any m e m2 e2 vx vy W h1 h2 (by omega) (by omega) (by omega) (by omega) (hT.mono hW); rw [k0.1] at this; exact this)
    (fun vx vy W h1 h2 hW => by have := dmul_any m e n2 f2 vx vy W h1 h2 (by omega) (by omega) (by omega) (by omega) (hT.mono hW); rw [k1.1] at this; exact this)
    (fun vx vy W h1 h2 hW => by have := dmul_any n f m2 e2 vx vy W h1 h2 (by omega) (by omega) (by omega) (by omega) (hT.mono hW); rw [k2.1] at this; exact this)
    (fun vx vy W h1 h2 hW => by have := dmul_any n f n2 f2 vx vy W h1 h2 (by omega) (by omega) (by omega) (by omega) (hT.mono hW); rw [k3.1] at this; exact this)
  have hrb : ∀ p ∈ [(m, e, m2, e2), (m, e, n2, f2), (n, f, m2, e2), (n, f, n2, f2)], zl (mulR p).1 ≤ 500 ∧ (-10000 ≤ (mulR p).2 ∧ (mulR p).2 ≤ 10000) := hmem _ ⟨k0.2.1, k0.2.2.1⟩ ⟨k1.2.1, k1.2.2.1⟩ ⟨k2.2.1, k2.2.2.1⟩ ⟨k3.2.1, k3.2.2.1⟩
  have j0 : dOf (mulR (m, e, m2, e2)) = dq m e * dq m2 e2 := k0.2.2.2
  have j1 : dOf (mulR (m, e, n2, f2)) = dq m e * dq n2 f2 := k1.2.2.2
  have j2 : dOf (mulR (n, f, m2, e2)) = dq n f * dq m2 e2 := k2.2.2.2
  have j3 : dOf (mulR (n, f, n2, f2)) = dq n f * dq n2 f2 := k3.2.2.2
  obtain ⟨a1, a2, a3, a4⟩ := min4_le (dq m e * dq m2 e2) (dq m e * dq n2 f2) (dq n f * dq m2 e2) (dq n f * dq n2 f2)
  obtain ⟨b1, b2, b3, b4⟩ := le_max4 (dq m e * dq m2 e2) (dq m e * dq n2 f2) (dq n f * dq m2 e2) (dq n f * dq n2 f2)
  have hlo : (∃ p ∈ [(m, e, m2, e2), (m, e, n2, f2), (n, f, m2, e2), (n, f, n2, f2)], dOf (mulR p) = min4 (dq m e * dq m2 e2) (dq m e * dq n2 f2) (dq n f * dq m2 e2) (dq n f * dq n2 f2)) ∧ ∀ p ∈ [(m, e, m2, e2), (m, e, n2, f2), (n, f, m2, e2), (n, f, n2, f2)], min4 (dq m e * dq m2 e2) (dq m e * dq n2 f2) (dq n f * dq m2 e2) (dq n f * dq n2 f2) ≤ dOf (mulR p) := by
    refine ⟨?_, hmem _ (by rw [j0]; exact a1) (by rw [j1]; exact a2) (by rw [j2]; exact a3) (by rw [j3]; exact a4)⟩
    rcases min4_or (dq m e * dq m2 e2) (dq m e * dq n2 f2) (dq n f * dq m2 e2) (dq n f * dq n2 f2) with h | h | h | h <;> rw [h]
    · exact ⟨(m, e, m2, e2), by simp, j0⟩
    · exact ⟨(m, e, n2, f2), by simp, j1⟩
    · exact ⟨(n, f, m2, e2), by simp, j2⟩
    · exact ⟨(n, f, n2, f2), by simp, j3⟩
  have hhi : (∃ p ∈ [(m, e, m2, e2), (m, e, n2, f2), (n, f, m2, e2), (n, f, n2, f2)], dOf (mulR p) = max4 (dq m e * dq m2 e2) (dq m e * dq n2 f2) (dq n f * dq m2 e2) (dq n f * dq n2 f2)) ∧ ∀ p ∈ [(m, e, m2, e2), (m, e, n2, f2), (n, f, m2, e2), (n, f, n2, f2)], dOf (mulR p) ≤ max4 (dq m e * dq m2 e2) (dq m e * dq n2 f2) (dq n f * dq m2 e2) (dq n f * dq n2 f2) := by
    refine ⟨?_, hmem _ (by rw [j0]; exact b1) (by rw [j1]; exact b2) (by rw [j2]; exact b3) (by rw [j3]; exact b4)⟩
    rcases max4_or (dq m e * dq m2 e2) (dq m e * dq n2 f2) (dq n f * dq m2 e2) (dq n f * dq n2 f2) with h | h | h | h <;> rw [h]
    · exact ⟨(m, e, m2, e2), by simp, j0⟩
    · exact ⟨(m, e, n2, f2), by simp, j1⟩
    · exact ⟨(n, f, m2, e2), by simp, j2⟩
    · exact ⟨(n, f, n2, f2), by simp, j3⟩
  obtain ⟨lo, hlo9⟩ : ∃ x, min4 (dq m e * dq m2 e2) (dq m e * dq n2 f2) (dq n f * dq m2 e2) (dq n f * dq n2 f2) = x := ⟨_, rfl⟩
  obtain ⟨hi, hhi9⟩ : ∃ x, max4 (dq m e * dq m2 e2) (dq m e * dq n2 f2) (dq n f * dq m2 e2) (dq n f * dq n2 f2) = x := ⟨_, rfl⟩
  rw [hlo9] at hlo ⊢
  rw [hhi9] at hhi ⊢
  have HC := Lib.hid (fun vl W (h : RowI W vl [(m, e, m2, e2), (m, e, n2, f2), (n, f, m2, e2), (n, f, n2, f2)]) (hW : Below w.heap.size w W) => acomb_any 52 hen [(m, e, m2, e2), (m, e, n2, f2), (n, f, m2, e2), (n, f, n2, f2)] mulR lo hi k vl W h (by simp) (by simp) (fun p hp vx vy W2 h1 h2 h3 => hop p hp vx vy W2 h1 h2 (hW.trans (h3.mono hW.size))) hrb hlo hhi hk1 hk2 (hT.mono hW))
  clear hen hop hrb hlo hhi hlo9 hhi9 hmem k0 k1 k2 k3 hx hy hn1 hn2 hn3 hn4 lm ln lm2 ln2 he hf he2 hf2 hd1 hd2 hk1 hk2 hT j0 j1 j2 j3 a1 a2 a3 a4 b1 b2 b3 b4
  go_enter Tryz.func21, Tryz.ntmps21
  go_wp2_with fail
  have L := (((L0.varI (w.heap.size) (by simp) (ng m) A (zl m) c e (ng n) B (zl n) d f).varI (w.heap.size + 1) (by simp) (ng m2) A2 (zl m2) k2 e2 (ng n2) B2 (zl n2) d2 f2).varI (w.heap.size + 2) (by simp) false none 0 0 0 false none 0 0 0)
  have c00 := L.b0.c60
  have c01 := L.b0.c61
  have c02 := L.b0.c62
  have c03 := L.b0.c63
  have c04 := L.b0.c64
  have c05 := L.b0.c65
  have c10 := L.tl.b0.c60
  have c11 := L.tl.b0.c61
  have c12 := L.tl.b0.c62
  have c13 := L.tl.b0.c63
  have c14 := L.tl.b0.c64
  have c15 := L.tl.b0.c65
  have c20 := L.tl.tl.b0.c60
  have c21 := L.tl.tl.b0.c61
  have c22 := L.tl.tl.b0.c62
  have c23 := L.tl.tl.b0.c63
  have c24 := L.tl.tl.b0.c64
  have c25 := L.tl.tl.b0.c65
  go_wp2_with fail
  clear c00 c01 c02 c03 c04 c05 c10 c11 c12 c13 c14 c15 c20 c21 c22 c23 c24 c25
  replace L := L.var (w.heap.size + 3) (by simp) 75 #[.bool (ng m), .slice A (zl m) c, .int .i64 e, .bool (ng m2), .slice A2 (zl m2) k2, .int .i64 e2, .bool (ng m), .slice A (zl m) c, .int .i64 e, .bool (ng n2), .slice B2 (zl n2) d2, .int .i64 f2, .bool (ng n), .slice B (zl n) d, .int .i64 f, .bool (ng m2), .slice A2 (zl m2) k2, .int .i64 e2, .bool (ng n), .slice B (zl n) d, .int .i64 f, .bool (ng n2), .slice B2 (zl n2) d2, .int .i64 f2] (plainI_4 _ _ _ _ _ _ _ _ _ _ _ _ _ _ _ _ _ _ _ _ _ _ _ _ _ _ _ _ _ _ _ _)
  obtain ⟨gl, hgl⟩ : ∃ gl, w.heap.size + 1 + 1 + 1 = gl := ⟨_, rfl⟩
  have hgl2 : w.heap.size + 3 = gl := hgl
  obtain ⟨gr, hgr⟩ : ∃ gr, w.heap.size + 1 + 1 = gr := ⟨_, rfl⟩
  have hgr2 : w.heap.size + 2 = gr := hgr
  rw [hgl2, hgr2] at L
  rw [hgl, hgr]
  have hgl3 : w.heap.size + 2 < gl := by omega
  have hgr3 : w.heap.size + 1 < gr := by omega
  have hgl4 : gr < gl := by omega
  clear hgl hgl2 hgr hgr2
  refine (HC.out _ _ (rowI_4 L.b0 (L.getN (v := .slice A (zl m) c) (x := (m).natAbs) (by simp)) (L.getN (v := .slice A2 (zl m2) k2) (x := (m2).natAbs) (by simp)) (L.getN (v := .slice A (zl m) c) (x := (m).natAbs) (by simp)) (L.getN (v := .slice B2 (zl n2) d2) (x := (n2).natAbs) (by simp)) (L.getN (v := .slice B (zl n) d) (x := (n).natAbs) (by simp)) (L.getN (v := .slice A2 (zl m2) k2) (x := (m2).natAbs) (by simp)) (L.getN (v := .slice B (zl n) d) (x := (n).natAbs) (by simp)) (L.getN (v := .slice B2 (zl n2) d2) (x := (n2).natAbs) (by simp))) L.below).mono ?_
  intro e9 w19 hen
  obtain ⟨v19, er, m9, e9', n9, f9, rfl, ii, be, hback⟩ := hen.form
  obtain ⟨A5, c5, B5, d5, rfl, ia, ib⟩ := ii.form
  replace L := (((L.step be).n ib).n ia).swap
  clear be ii ia ib hen
  have HBK := Lib.hid hback
  clear hback
  have c00 := L.b0.c60
  have f00 := L.b0.fr 0
  have c01 := L.b0.c61
  have f01 := L.b0.fr 1
  have c02 := L.b0.c62
  have f02 := L.b0.fr 2
  have c03 := L.b0.c63
  have f03 := L.b0.fr 3
  have c04 := L.b0.c64
  have f04 := L.b0.fr 4
  have c05 := L.b0.c65
  have f05 := L.b0.fr 5
  go_wp2_with fail
  have LP := L.putI (by omega) (by first | (simp; done) | (simp; omega)) (ng m9) A5 (zl m9) c5 e9' (ng n9) B5 (zl n9) d5 f9
  have k0' := LP.b0.c60
  have k1' := LP.b0.c61
  have k2' := LP.b0.c62
  have k3' := LP.b0.c63
  have k4' := LP.b0.c64
  have k5' := LP.b0.c65
  unfold put6 at k0' k1' k2' k3' k4' k5'
  exact bodyPost_ret (v := .tuple #[.agg #[.bool (ng m9), .slice A5 (zl m9) c5, .int .i64 e9', .bool (ng n9), .slice B5 (zl n9) d5, .int .i64 f9], .int .i64 er]) (by simp [results, Tryz.results21, go_sem, k0', k1', k2', k3', k4', k5']) rfl (HBK.out _ _ _ (isI_n (LP.getN (by simp)) (LP.getN (by simp))) LP.below)
theorem mk_nn9 {R j : Int} (h : mkR R j = 0) (h0 : 0 ≤ R) : 0 ≤ mkM R j := by
  refine Int.not_lt.1 fun hc => ?_
  have h2 := dq_nn j h0
  rw [← dq_mk h] at h2
  have h3 : dq (mkM R j) (mkE R j) ≤ dq (-1) (mkE R j) := (dq_le_iff _ _ _).2 (by omega)
  have h4 : dq 0 (mkE R j) ≤ dq (-1) (mkE R j) := by
    rw [dq_zero]
    exact Rat.le_trans h2 h3
  have := (dq_le_iff _ _ _).1 h4
  omega
theorem fl_ge {q : Rat} {X k : Int} (h : dq X (-k) ≤ q) : X ≤ cutQ q k := by
  have h2 := cut_hi q k
  rw [← dq_succ] at h2
  have h3 := rlt_le h h2
  rw [← Rat.not_le, dq_le_iff] at h3
  omega
theorem ce_le {q : Rat} {X k : Int} (h : q ≤ dq X (-k)) : -(cutQ (-q) k) ≤ X := by
  have := fl_ge (q := -q) (X := -X) (k := k) (by rw [dq_neg]; exact Rat.neg_le_neg h)
  omega
theorem fl_le {q : Rat} {X k : Int} (h : q ≤ dq X (-k)) : cutQ q k ≤ X := (dq_le_iff _ _ (-k)).1 (Rat.le_trans (cut_lo q k) h)
theorem ce_nn {q : Rat} (h : 0 ≤ q) (k : Int) : 0 ≤ -(cutQ (-q) k) := by
  have h1 := cut_lo (-q) k
  have h2 : dq (cutQ (-q) k) (-k) ≤ dq 0 (-k) := by
    rw [dq_zero]
    exact Rat.le_trans h1 (by rw [← Rat.neg_zero]; exact Rat.neg_le_neg h)
  have := (dq_le_iff _ _ _).1 h2
  omega
theorem dq_two (X : Int) (k : Nat) : dq X (-(k : Int)) = dq (X * 2 ^ k) (-(k : Int) + -(k : Int)) := by
  refine dq_eq (F := -(k : Int) + -(k : Int)) ?_ (by omega) (by omega)
  rw [show (-(k : Int) - (-(k : Int) + -(k : Int))).toNat = k by omega, show (-(k : Int) + -(k : Int) - (-(k : Int) + -(k : Int))).toNat = 0 by omega]
  simp
theorem cst_int {T c : Int} {k : Nat} (hk : k ≤ 500) (h : Cst T c k) : loC T * 2 ^ (500 - k) ≤ c ∧ c ≤ hiC T * 2 ^ (500 - k) := by
  have h1 := h.clo
  have h2 := h.chi
  rw [h.qlo, dq_up _ hk] at h1
  rw [h.qhi, dq_up _ hk] at h2
  exact ⟨(dq_le_iff _ _ _).1 h1, (dq_le_iff _ _ _).1 h2⟩
theorem cst_bnd {T c A B : Int} {k j : Nat} (hk : k ≤ 500) (hj : j ≤ k) (h : Cst T c k) (ha : A * 2 ^ (500 - j) < c) (hb : c < B * 2 ^ (500 - j)) : loC T < B * 2 ^ (k - j) ∧ A * 2 ^ (k - j) < hiC T := by
  obtain ⟨h1, h2⟩ := cst_int hk h
  have e : (2 : Int) ^ (500 - j) = 2 ^ (k - j) * 2 ^ (500 - k) := by
    rw [← Int.pow_add, show k - j + (500 - k) = 500 - j by omega]
  rw [e, ← Int.mul_assoc] at ha hb
  exact ⟨Int.lt_of_mul_lt_mul_right (Int.lt_of_le_of_lt h1 hb) (Int.le_of_lt (pow2_pos _)), Int.lt_of_mul_lt_mul_right (Int.lt_of_lt_of_le ha h2) (Int.le_of_lt (pow2_pos _))⟩
theorem mul_mono {a b c d : Int} (h1 : a ≤ c) (h2 : b ≤ d) (h3 : 0 ≤ b) (h4 : 0 ≤ c) : a * b ≤ c * d := Int.mul_le_mul h1 h2 h3 h4
theorem rmul_mono {a b : Rat} (h0 : 0 ≤ a) (h : a ≤ b) : a * a ≤ b * b :=
  Rat.le_trans (Rat.mul_le_mul_of_nonneg_left h h0) (Rat.mul_le_mul_of_nonneg_right h (Rat.le_trans h0 h))
theorem min_sq {a b : Rat} (h0 : 0 ≤ a) (h : a ≤ b) : min4 (a * a) (a * b) (b * a) (b * b) = a * a := by
  have h1 := Rat.mul_le_mul_of_nonneg_left h h0
  have h2 := rmul_mono h0 h
  have h3 := Rat.mul_le_mul_of_nonneg_left h (Rat.le_trans h0 h)
  unfold min4 rmin
  rw [if_pos h1, if_pos h3, Rat.mul_comm b a, if_pos h1]
theorem max_sq {a b : Rat} (h0 : 0 ≤ a) (h : a ≤ b) : max4 (a * a) (a * b) (b * a) (b * b) = b * b := by
  have h1 := Rat.mul_le_mul_of_nonneg_left h h0
  have h3 := Rat.mul_le_mul_of_nonneg_left h (Rat.le_trans h0 h)
  have h4 : a * b ≤ b * b := by rw [Rat.mul_comm a b]; exact h3
  unfold max4 rmax
  rw [if_pos h1, if_pos h3, if_pos h4]
/-- An image that is not negative and not greater than 25. -/
theorem en_ok {lo hi : Rat} {k : Nat} (hk : k < 200) (h0 : 0 ≤ lo) (h : lo ≤ hi) (h1 : hi ≤ dq (25 * 2 ^ k) (-(k : Int))) :
    (∀ W, RetEn W lo hi (k : Int) = RetIE W (enM lo k) (enE lo k) (upM hi k) (upE hi k) 0) ∧ Okd (enM lo k) (enE lo k) ∧ Okd (upM hi k) (upE hi k) ∧ 0 ≤ enM lo k ∧ 0 ≤ upM hi k ∧
    dq (enM lo k) (enE lo k) = dq (cutQ lo k) (-(k : Int)) ∧ dq (upM hi k) (upE hi k) = dq (-(cutQ (-hi) k)) (-(k : Int)) ∧ dq (enM lo k) (enE lo k) ≤ lo ∧ hi ≤ dq (upM hi k) (upE hi k) := by
  have hwk : workB (k : Int) = true := by
    unfold workB
    rw [decide_eq_true (show (0 : Int) ≤ (k : Int) by omega), decide_eq_true (show (k : Int) ≤ 4096 by omega)]
    rfl
  have p25 : (25 : Int) * 2 ^ k ≤ ((2 ^ (k + 5) : Nat) : Int) := by
    rw [Nat.pow_add, Int.natCast_mul, cast2]
    have := pow2_pos k
    omega
  have a1 := cut_nn h0 (k : Int)
  have a2 := fl_le (Rat.le_trans h h1)
  have b1 := ce_nn (Rat.le_trans h0 h) (k : Int)
  have b2 := ce_le h1
  have ab : AbP (cutQ lo k) (k + 5) := by unfold AbP; omega
  have bb : AbP (-(cutQ (-hi) k)) (k + 5) := by unfold AbP; omega
  obtain ⟨x1, x2, _⟩ := mk_okd (k := k) ab (by omega) (by omega)
  obtain ⟨y1, y2, _⟩ := mk_okd (k := k) bb (by omega) (by omega)
  have za := ab.zl
  have zb := bb.zl
  have r1 : mkR (cutQ lo k) (-(k : Int)) = 0 := mk_fits9 (by omega) (by omega) (by omega)
  have r2 : mkR (-(cutQ (-hi) k)) (-(k : Int)) = 0 := mk_fits9 (by omega) (by omega) (by omega)
  exact ⟨RetEn.ok hwk (z := 1) (by omega) (by omega) (by omega) h, x1, y1, mk_nn9 r1 a1, mk_nn9 r2 b1, x2, y2, en_lo r1, up_hi r2⟩
set_option maxHeartbeats 4000000 in
theorem squares_ok {k : Nat} (hk : k < 200) {T T2 : Int} (C : Cst T cPi k) (D : Cst T2 cEx k) (w : World) (hT : ∀ W, Below w.heap.size w W → Tab W) :
    ∃ S F S2 F2 M E N G P Q P2 Q2 : Int,
      (∀ v u W, IsI W v (aM T k) (aE T k) (bM T k) (bE T k) → IsI W u (aM T k) (aE T k) (bM T k) (bE T k) → Below w.heap.size w W → Calls Tryz.prog 21 #[v, u, .int .i64 (k : Int)] W (RetIE W S F S2 F2 0)) ∧
      (∀ v W, IsI W v S F S2 F2 → Below w.heap.size w W → Calls Tryz.prog 22 #[v, .int .i64 (k : Int)] W (RetIE W M E N G 0)) ∧
      (∀ v W, IsI W v (aM T2 k) (aE T2 k) (bM T2 k) (bE T2 k) → Below w.heap.size w W → Calls Tryz.prog 23 #[v, .int .i64 2, .int .i64 (k : Int)] W (RetIE W P Q P2 Q2 0)) ∧
      (∀ v u W, IsI W v (aM T k) (aE T k) (bM T k) (bE T k) → IsI W u M E N G → Calls Tryz.prog 24 #[v, u] W (RetB W true)) ∧
      (∃ z : Int, (8 ≤ k → z < 0) ∧ ∀ v u W, IsI W v S F S2 F2 → IsI W u (mkM 10 0) (mkE 10 0) (mkM 10 0) (mkE 10 0) → Calls Tryz.prog 14 #[v, u] W (RetI W z)) ∧
      (∃ z : Int, (8 ≤ k → z < 0) ∧ ∀ v u W, IsI W v P Q P2 Q2 → IsI W u S F S2 F2 → Calls Tryz.prog 14 #[v, u] W (RetI W z)) := by
  have hp := pow2_pos k
  obtain ⟨cl, ch⟩ := cst_bnd (j := 0) (by omega) (by omega) C (show 3 * 2 ^ (500 - 0) < cPi by decide +kernel) (show cPi < 4 * 2 ^ (500 - 0) by decide +kernel)
  obtain ⟨dl, dh⟩ := cst_bnd (j := 0) (by omega) (by omega) D (show 2 * 2 ^ (500 - 0) < cEx by decide +kernel) (show cEx < 3 * 2 ^ (500 - 0) by decide +kernel)
  rw [Nat.sub_zero] at cl ch dl dh
  have c2 := hi_le_lo T
  have d2 := hi_le_lo T2
  have c3 := lo_le_hi T
  have d3 := lo_le_hi T2
  have hwk : workB (k : Int) = true := by
    unfold workB
    rw [decide_eq_true (show (0 : Int) ≤ (k : Int) by omega), decide_eq_true (show (k : Int) ≤ 4096 by omega)]
    rfl
  have p3 : (8 : Int) * 2 ^ k = ((2 ^ (k + 3) : Nat) : Int) := by
    rw [Nat.pow_add, Int.natCast_mul, cast2]
    omega
  -- the two intervals' ends
  have szL : zl (loC T) ≤ 8 ∧ zl (hiC T) ≤ 8 ∧ zl (loC T2) ≤ 8 ∧ zl (hiC T2) ≤ 8 := by
    have x1 : AbP (loC T) (k + 3) := by unfold AbP; omega
    have x2 : AbP (hiC T) (k + 3) := by unfold AbP; omega
    have x3 : AbP (loC T2) (k + 3) := by unfold AbP; omega
    have x4 : AbP (hiC T2) (k + 3) := by unfold AbP; omega
    have := x1.zl
    have := x2.zl
    have := x3.zl
    have := x4.zl
    omega
  have szM : zl (aM T k) ≤ 8 ∧ zl (bM T k) ≤ 8 := ⟨Nat.le_trans (zl_mk _ _) szL.1, Nat.le_trans (zl_mk _ _) szL.2.1⟩
  obtain ⟨ca1, ca2, ca3⟩ := C.lo
  obtain ⟨cb1, cb2, cb3⟩ := C.hi
  obtain ⟨da1, da2, da3⟩ := D.lo
  obtain ⟨db1, db2, db3⟩ := D.hi
  obtain ⟨a, ha⟩ : ∃ q, dq (aM T k) (aE T k) = q := ⟨_, rfl⟩
  obtain ⟨b, hb⟩ : ∃ q, dq (bM T k) (bE T k) = q := ⟨_, rfl⟩
  obtain ⟨a', ha'⟩ : ∃ q, dq (aM T2 k) (aE T2 k) = q := ⟨_, rfl⟩
  obtain ⟨b', hb'⟩ : ∃ q, dq (bM T2 k) (bE T2 k) = q := ⟨_, rfl⟩
  have ea : a = dq (loC T) (-(k : Int)) := by rw [← ha]; exact C.qlo
  have eb : b = dq (hiC T) (-(k : Int)) := by rw [← hb]; exact C.qhi
  have ea' : a' = dq (loC T2) (-(k : Int)) := by rw [← ha']; exact D.qlo
  have eb' : b' = dq (hiC T2) (-(k : Int)) := by rw [← hb']; exact D.qhi
  have a0 : 0 ≤ a := by rw [ea]; exact dq_nn _ (by omega)
  have a0' : 0 ≤ a' := by rw [ea']; exact dq_nn _ (by omega)
  have hab : a ≤ b := by rw [ea, eb, dq_le_iff]; exact c3
  have hab' : a' ≤ b' := by rw [ea', eb', dq_le_iff]; exact d3
  have b0 := Rat.le_trans a0 hab
  have b0' := Rat.le_trans a0' hab'
  have dcm1 : dcm (aM T k) (aE T k) (bM T k) (bE T k) ≤ 0 := by rw [dcm_le, ha, hb]; exact hab
  have dcm2 : dcm (aM T2 k) (aE T2 k) (bM T2 k) (bE T2 k) ≤ 0 := by rw [dcm_le, ha', hb']; exact hab'
  have sqd : ∀ X : Int, dq X (-(k : Int)) * dq X (-(k : Int)) = dq (X * X) (-(k : Int) + -(k : Int)) := fun X => (dq_mul _ _ _ _).symm
  have h25 : ∀ X : Int, 0 ≤ X → X ≤ 5 * 2 ^ k → dq X (-(k : Int)) * dq X (-(k : Int)) ≤ dq (25 * 2 ^ k) (-(k : Int)) := fun X h1 h2 => by
    rw [sqd, dq_two, dq_le_iff]
    have := mul_mono h2 h2 h1 (by omega)
    rw [show (5 : Int) * 2 ^ k * (5 * 2 ^ k) = 25 * 2 ^ k * 2 ^ k by rw [Int.mul_assoc 5 (2 ^ k), Int.mul_left_comm (2 ^ k) 5 (2 ^ k), ← Int.mul_assoc 5 5, ← Int.mul_assoc (5 * 5) (2 ^ k) (2 ^ k)]; rfl] at this
    exact this
  have hbb : b * b ≤ dq (25 * 2 ^ k) (-(k : Int)) := by rw [eb]; exact h25 _ (by omega) (by omega)
  have hbb' : b' * b' ≤ dq (25 * 2 ^ k) (-(k : Int)) := by rw [eb']; exact h25 _ (by omega) (by omega)
  obtain ⟨s1, s2, s3, s4, s5, s6, s7, s8, s9⟩ := en_ok hk (Rat.mul_nonneg a0 a0) (rmul_mono a0 hab) hbb
  -- the root
  have hs25 : dq (upM (b * b) k) (upE (b * b) k) ≤ dq 1 ((2 * 4 : Nat) : Int) := by
    rw [s7]
    refine Rat.le_trans ((dq_le_iff _ _ _).2 (ce_le hbb)) ?_
    rw [show dq (25 * 2 ^ k) (-(k : Int)) = dq 25 0 from dq_eq (F := -(k : Int)) (by rw [show (-(k : Int) - -(k : Int)).toNat = 0 by omega, show (0 - -(k : Int)).toNat = k by omega]; simp) (by omega) (by omega)]
    rw [show dq 1 ((2 * 4 : Nat) : Int) = dq 256 0 from dq_eq (F := 0) (by decide) (by omega) (by omega)]
    exact (dq_le_iff _ _ _).2 (by omega)
  obtain ⟨M, E, N, G, r1, r2, r3, r4, r5, r6, r7, _⟩ := RetSr.sure (m := enM (a * a) k) (e := enE (a * a) k) (n := upM (b * b) k) (f := upE (b * b) k) (k := (k : Int)) (i := 4) (Nat.le_trans s2.1 (by omega)) (Nat.le_trans s3.1 (by omega)) (by have := s2.2.1; omega) (by have := s3.2.1; omega) s4 s5 (Rat.le_trans s8 (Rat.le_trans (rmul_mono a0 hab) s9)) hs25 (by omega) hwk
  have i1 : dq M E ≤ a := by
    rw [r6]
    exact le_sq a0 (Rat.le_trans (sq_lo (dq_nn _ s4) _) s8)
  have i2 : b ≤ dq N G := by
    rw [r7]
    exact le_sq (dq_nn _ (su_nn _ _)) (Rat.le_trans s9 (su_hi (dq_nn _ s5) _))
  -- the power
  obtain ⟨lo, hlo⟩ : ∃ q, plo (sgB (aM T2 k) (bM T2 k)) a' b' 2 = q := ⟨_, rfl⟩
  obtain ⟨hi, hhi⟩ : ∃ q, phi (sgB (aM T2 k) (bM T2 k)) a' b' 2 = q := ⟨_, rfl⟩
  have q0 : 0 ≤ lo := by
    obtain ⟨y, hy, e⟩ := plo_or (sgB (aM T2 k) (bM T2 k)) a' b' 2
    rw [← hlo, e, pw_two]
    rcases hy with rfl | rfl | ⟨rfl, _⟩
    · exact Rat.mul_nonneg a0' a0'
    · exact Rat.mul_nonneg b0' b0'
    · exact Rat.mul_nonneg Rat.le_refl Rat.le_refl
  have q1 : hi ≤ b' * b' := by
    obtain ⟨y, hy, e⟩ := phi_or (sgB (aM T2 k) (bM T2 k)) a' b' 2
    rw [← hhi, e, pw_two]
    rcases hy with rfl | rfl | ⟨rfl, _⟩
    · exact rmul_mono a0' hab'
    · exact Rat.le_refl
    · exact rmul_mono Rat.le_refl b0'
  have q2 : lo ≤ hi := by rw [← hlo, ← hhi]; exact plo_phi _ _ _ _
  obtain ⟨t1, t2, t3, t4, t5, t6, t7, t8, t9⟩ := en_ok hk q0 q2 (Rat.le_trans q1 hbb')
  have fx : ∀ W, RetPw W (aM T2 k) (aE T2 k) (bM T2 k) (bE T2 k) 2 (k : Int) = RetIE W (enM lo k) (enE lo k) (upM hi k) (upE hi k) 0 := fun W => by
    unfold RetPw
    rw [if_pos (by rw [hwk]; rfl), if_neg (by omega), if_neg (by omega), ha', hb', hlo, hhi, t1]
  have sm : smallB (aM T2 k) (aE T2 k) (bM T2 k) (bE T2 k) = true := by
    obtain ⟨_, x2, x3⟩ := mk_small (C := loC T2) (k := (k : Int)) (z := 8) (by omega) (by omega) (by omega)
    obtain ⟨_, y2, y3⟩ := mk_small (C := hiC T2) (k := (k : Int)) (z := 8) (by omega) (by omega) (by omega)
    unfold smallB
    rw [Bool.and_eq_true, Bool.and_eq_true, Bool.and_eq_true, Bool.and_eq_true, decide_eq_true_iff, decide_eq_true_iff, decide_eq_true_iff]
    exact ⟨dcm2, x2, y2, x3, y3⟩
  have a10 : AbP 10 4 := by unfold AbP; decide
  obtain ⟨_, g2, g3, g4, _, g6⟩ := nf a10 (by omega)
  obtain ⟨sa1, sa2, sa3⟩ := s2
  obtain ⟨sb1, sb2, sb3⟩ := s3
  obtain ⟨ta1, ta2, ta3⟩ := t2
  obtain ⟨tb1, tb2, tb3⟩ := t3
  refine ⟨enM (a * a) k, enE (a * a) k, upM (b * b) k, upE (b * b) k, M, E, N, G, enM lo k, enE lo k, upM hi k, upE hi k, ?_, ?_, ?_, ?_, ?_, ?_⟩
  · intro v u W h1 h2 hW
    have s := amul_any (aM T k) (aE T k) (bM T k) (bE T k) (aM T k) (aE T k) (bM T k) (bE T k) (k : Int) v u W h1 h2 (by omega) (by omega) (by omega) (by omega) (by omega) (by omega) (by omega) (by omega) dcm1 dcm1 (by omega) (by omega) (hT W hW)
    rw [ha, hb, min_sq a0 hab, max_sq a0 hab, s1] at s
    exact s
  · intro v W h1 hW
    have s := dsqrt_any (enM (a * a) k) (enE (a * a) k) (upM (b * b) k) (upE (b * b) k) (k : Int) v W h1 (by omega) (by omega) (by omega) (by omega) sa3 sb3 (by omega) (by omega) (hT W hW)
    rw [r1] at s
    exact s
  · intro v W h1 hW
    have s := dpw_any (aM T2 k) (aE T2 k) (bM T2 k) (bE T2 k) 2 (k : Int) v W h1 (by omega) (by omega) (by omega) (by omega) da3 db3 dcm2 (fun _ => ⟨⟨by omega, by omega, by omega, show (zl (aM T2 k) + ((aE T2 k).natAbs / 32 + 1)) * 2 ≤ 780 by omega⟩, ⟨by omega, by omega, by omega, show (zl (bM T2 k) + ((bE T2 k).natAbs / 32 + 1)) * 2 ≤ 780 by omega⟩⟩) (by omega) (by omega) sm (hT W hW)
    rw [fx] at s
    exact s
  · intro v u W h1 h2
    have s := r10within_any (aM T k) (aE T k) (bM T k) (bE T k) M E N G v u W h1 h2 (by omega) (by omega) (by omega) (by omega) (by omega) (by omega) (by omega) (by omega)
    rwa [(inB_iff _ _ _ _ _ _ _ _).2 ⟨by rw [ha]; exact i1, by rw [hb]; exact i2⟩] at s
  · refine ⟨_, fun h8 => ?_, fun v u W h1 h2 => r10cmp_any (enM (a * a) k) (enE (a * a) k) (upM (b * b) k) (upE (b * b) k) (mkM 10 0) (mkE 10 0) (mkM 10 0) (mkE 10 0) v u W h1 h2 (by omega) (by omega) (by omega) (by omega) (by omega) (by omega) (by omega) (by omega)⟩
    unfold icm
    rw [if_pos]
    · decide
    · rw [dcm_lt, g6, s7]
      obtain ⟨w1, w2⟩ := cst_bnd (j := 8) (by omega) h8 C (show 804 * 2 ^ (500 - 8) < cPi by decide +kernel) (show cPi < 805 * 2 ^ (500 - 8) by decide +kernel)
      have hP1 := pow2_pos (k - 8)
      have e8 : (2 : Int) ^ k = 256 * 2 ^ (k - 8) := by
        have : (2 : Int) ^ k = 2 ^ 8 * 2 ^ (k - 8) := by rw [← Int.pow_add, show 8 + (k - 8) = k by omega]
        rw [this]
        rfl
      obtain ⟨PP, hPP⟩ : ∃ z : Int, 2 ^ (k - 8) = z := ⟨_, rfl⟩
      rw [hPP] at w1 w2 hP1 e8
      have hU : -(cutQ (-(b * b)) k) ≤ 10 * 2 ^ k - 1 := by
        refine ce_le ?_
        rw [eb, sqd, dq_two, dq_le_iff, e8]
        have m1 := mul_mono (show hiC T ≤ 807 * PP by omega) (show hiC T ≤ 807 * PP by omega) (by omega) (by omega)
        obtain ⟨Y, hY⟩ : ∃ Y, PP * PP = Y := ⟨_, rfl⟩
        have hYP : PP ≤ Y := by
          rw [← hY]
          have := Int.mul_le_mul_of_nonneg_left (show (1 : Int) ≤ PP by omega) (show 0 ≤ PP by omega)
          omega
        rw [show 807 * PP * (807 * PP) = 651249 * Y by rw [← hY, Int.mul_assoc 807 PP, Int.mul_left_comm PP 807 PP, ← Int.mul_assoc 807 807]; rfl] at m1
        rw [show (10 * (256 * PP) - 1) * (256 * PP) = 655360 * Y - 256 * PP by rw [Int.sub_mul, Int.one_mul, ← Int.mul_assoc 10 256 PP, Int.mul_assoc (10 * 256) PP, Int.mul_left_comm PP 256 PP, hY, ← Int.mul_assoc (10 * 256) 256]; rfl]
        omega
      rw [← Rat.not_le]
      intro hle
      have h10 : dq 10 0 = dq (10 * 2 ^ k) (-(k : Int)) := dq_eq (F := -(k : Int)) (by rw [show (0 - -(k : Int)).toNat = k by omega, show (-(k : Int) - -(k : Int)).toNat = 0 by omega]; simp) (by omega) (by omega)
      rw [h10, dq_le_iff] at hle
      omega
  · refine ⟨_, fun h8 => ?_, fun v u W h1 h2 => r10cmp_any (enM lo k) (enE lo k) (upM hi k) (upE hi k) (enM (a * a) k) (enE (a * a) k) (upM (b * b) k) (upE (b * b) k) v u W h1 h2 (by omega) (by omega) (by omega) (by omega) (by omega) (by omega) (by omega) (by omega)⟩
    unfold icm
    rw [if_pos]
    · decide
    · rw [dcm_lt, t7, s6]
      obtain ⟨w1, w2⟩ := cst_bnd (j := 8) (by omega) h8 C (show 804 * 2 ^ (500 - 8) < cPi by decide +kernel) (show cPi < 805 * 2 ^ (500 - 8) by decide +kernel)
      obtain ⟨w3, w4⟩ := cst_bnd (j := 8) (by omega) h8 D (show 695 * 2 ^ (500 - 8) < cEx by decide +kernel) (show cEx < 696 * 2 ^ (500 - 8) by decide +kernel)
      have hP1 := pow2_pos (k - 8)
      have e8 : (2 : Int) ^ k = 256 * 2 ^ (k - 8) := by
        have : (2 : Int) ^ k = 2 ^ 8 * 2 ^ (k - 8) := by rw [← Int.pow_add, show 8 + (k - 8) = k by omega]
        rw [this]
        rfl
      obtain ⟨PP, hPP⟩ : ∃ z : Int, 2 ^ (k - 8) = z := ⟨_, rfl⟩
      rw [hPP] at w1 w2 w3 w4 hP1 e8
      have sc : ∀ x : Int, x * PP * (256 * PP) = x * 256 * (PP * PP) := fun x => by
        rw [Int.mul_assoc x PP, Int.mul_left_comm PP 256 PP, ← Int.mul_assoc x 256]
      have sq9 : ∀ x : Int, x * PP * (x * PP) = x * x * (PP * PP) := fun x => by
        rw [Int.mul_assoc x PP, Int.mul_left_comm PP x PP, ← Int.mul_assoc x x]
      have hY0 : 0 ≤ PP * PP := Int.mul_nonneg (by omega) (by omega)
      have hU : -(cutQ (-hi) k) ≤ 1904 * PP := by
        refine ce_le (Rat.le_trans q1 ?_)
        rw [eb', sqd, dq_two, dq_le_iff, e8, sc]
        have m1 := mul_mono (show hiC T2 ≤ 698 * PP by omega) (show hiC T2 ≤ 698 * PP by omega) (by omega) (by omega)
        rw [sq9] at m1
        omega
      have hV : 2400 * PP ≤ cutQ (a * a) k := by
        refine fl_ge ?_
        rw [ea, sqd, dq_two, dq_le_iff, e8, sc]
        have m1 := mul_mono (show 802 * PP ≤ loC T by omega) (show 802 * PP ≤ loC T by omega) (by omega) (by omega)
        rw [sq9] at m1
        omega
      rw [← Rat.not_le]
      intro hle
      rw [dq_le_iff] at hle
      omega

set_option maxHeartbeats 64000000 in
theorem walk_ConstantSquares (a0 : Int) (w : World) (h0 : -9223372036854775808 ≤ a0 ∧ a0 ≤ 9223372036854775807) (hT : Tab w) :
    Calls Tryz.prog 7 #[.int .i64 a0] w (fun e w' => e = .returned (.bool true) ∧ Below w.heap.size w w') := by
  have HT := Lib.hid (fun W (hW : Below w.heap.size w W) => hT.mono hW)
  clear hT
  go_enter Tryz.func7, Tryz.ntmps7
  go_wp2_with fail
  have L := (Lq.mk0 w)
  (try go_wp2_with fail)
  refine (awake13_any _ (HT.out _ L.below)).mono ?_
  rintro e9 w1 ⟨rfl, be⟩
  replace L := L.step be
  clear be
  obtain ⟨k, hr1⟩ : ∃ r : Nat, a0 % 200 = (r : Int) := ⟨(a0 % 200).toNat, by omega⟩
  have o1 := fun W => mod_any a0 200 W (by omega) (by omega) h0.1 h0.2
  rw [hr1] at o1
  have hb1 : k < 200 := by omega
  have MO1 := Lib.hid o1
  clear o1 hr1 h0
  (try go_wp2_with fail)
  refine (MO1.out _).mono ?_
  rintro e9 w' ⟨rfl, rfl⟩
  obtain ⟨T1, x1, C1⟩ := cst_pi (k := k) (by omega)
  obtain ⟨T2, x2, C2⟩ := cst_ex (k := k) (by omega)
  obtain ⟨T3, x3, C3⟩ := cst_ln (k := k) (by omega)
  have ot : ∀ W, Below w.heap.size w W → Calls Tryz.prog 10 #[.int .i64 (k : Int)] W (RetTE W (aM T1 k) (aE T1 k) (bM T1 k) (bE T1 k) (aM T2 k) (aE T2 k) (bM T2 k) (bE T2 k) (aM T3 k) (aE T3 k) (bM T3 k) (bE T3 k) 0 0 0) := fun W hW => three_yes k T1 T2 T3 W (by omega) (HT.out W hW) x1 x2 x3
  obtain ⟨S, F, S2, F2, M, E, N, G, P, Q, P2, Q2, u1, u2, u3, u4, ⟨z5, n5, u5⟩, ⟨z6, n6, u6⟩⟩ := squares_ok hb1 C1 C2 w HT.out
  have g10 := fun W => rof8_any 10 W (by omega) (by omega)
  clear C1 C2 C3 x1 x2 x3
  generalize aM T1 k = m1 at *
  generalize aE T1 k = e1 at *
  generalize bM T1 k = n1 at *
  generalize bE T1 k = f1 at *
  generalize aM T2 k = m2 at *
  generalize aE T2 k = e2 at *
  generalize bM T2 k = n2 at *
  generalize bE T2 k = f2 at *
  generalize aM T3 k = m3 at *
  generalize aE T3 k = e3 at *
  generalize bM T3 k = n3 at *
  generalize bE T3 k = f3 at *
  generalize mkM 10 0 = MT at *
  generalize mkE 10 0 = ET at *
  have OT := Lib.hid ot
  have U1 := Lib.hid u1
  have U2 := Lib.hid u2
  have U3 := Lib.hid u3
  have U4 := Lib.hid u4
  have U5 := Lib.hid u5
  have U6 := Lib.hid u6
  have G10 := Lib.hid g10
  clear ot g10 u1 u2 u3 u4 u5 u6
  (try go_wp2_with fail)
  refine (OT.out _ L.below).mono ?_
  rintro e w11 ⟨vv, rfl, it, be⟩
  obtain ⟨xA1, xc1, xB1, xd1, xA2, xc2, xB2, xd2, xA3, xc3, xB3, xd3, rfl, i1, i2, i3, i4, i5, i6⟩ := it.form
  replace L := ((((((L.step be).n i6).n i5).n i4).n i3).n i2).n i1
  clear be it i1 i2 i3 i4 i5 i6
  replace L := L.varT w11.heap.size rfl (ng m1) xA1 (zl m1) xc1 e1 (ng n1) xB1 (zl n1) xd1 f1 (ng m2) xA2 (zl m2) xc2 e2 (ng n2) xB2 (zl n2) xd2 f2 (ng m3) xA3 (zl m3) xc3 e3 (ng n3) xB3 (zl n3) xd3 f3
  replace L := L.varE3 (w11.heap.size + 1) (by simp) 0 0 0
  have t0' := L.tl.b0.cT0
  have t1' := L.tl.b0.cT1
  have t2' := L.tl.b0.cT2
  have t3' := L.tl.b0.cT3
  have t4' := L.tl.b0.cT4
  have t5' := L.tl.b0.cT5
  have t6' := L.tl.b0.cT6
  have t7' := L.tl.b0.cT7
  have t8' := L.tl.b0.cT8
  have t9' := L.tl.b0.cT9
  have t10' := L.tl.b0.cT10
  have t11' := L.tl.b0.cT11
  have t12' := L.tl.b0.cT12
  have t13' := L.tl.b0.cT13
  have t14' := L.tl.b0.cT14
  have t15' := L.tl.b0.cT15
  have t16' := L.tl.b0.cT16
  have t17' := L.tl.b0.cT17
  have u0' := L.b0.c30
  have u1' := L.b0.c31
  have u2' := L.b0.c32
  go_wp2_with (refine wp_storeNew2 _ rfl 32 34 _ _ rfl #[.bool false, .slice none 0 0, .int .i64 0, .bool false, .slice none 0 0, .int .i64 0, .bool false, .slice none 0 0, .int .i64 0, .bool false, .slice none 0 0, .int .i64 0, .bool false, .slice none 0 0, .int .i64 0, .bool false, .slice none 0 0, .int .i64 0] #[.bool (ng m1), .slice xA1 (zl m1) xc1, .int .i64 e1, .bool (ng n1), .slice xB1 (zl n1) xd1, .int .i64 f1, .bool (ng m2), .slice xA2 (zl m2) xc2, .int .i64 e2, .bool (ng n2), .slice xB2 (zl n2) xd2, .int .i64 f2, .bool (ng m3), .slice xA3 (zl m3) xc3, .int .i64 e3, .bool (ng n3), .slice xB3 (zl n3) xd3, .int .i64 f3] _ rfl rfl (by kernel_rfl) rfl (by simp [Value.oneCell']) ?_)
  clear t0' t1' t2' t3' t4' t5' t6' t7' t8' t9' t10' t11' t12' t13' t14' t15' t16' t17' u0' u1' u2'
  obtain ⟨gx, hgx⟩ : ∃ g9, w11.heap.size = g9 := ⟨_, rfl⟩
  rw [hgx] at L  ⊢
  clear hgx
  have u0' := L.b0.c30
  have u1' := L.b0.c31
  have t0' := L.tl.b0.cT0
  have t1' := L.tl.b0.cT1
  have t2' := L.tl.b0.cT2
  have t3' := L.tl.b0.cT3
  have t4' := L.tl.b0.cT4
  have t5' := L.tl.b0.cT5
  (try go_wp2_with fail)
  clear u0' u1' t0' t1' t2' t3' t4' t5'
  refine (U1.out _ _ _ (isI_n (m := m1) (e := e1) (n := n1) (f := f1) (s := .slice xA1 (zl m1) xc1) (t := .slice xB1 (zl n1) xd1) (L.getN (by simp)) (L.getN (by simp))) (isI_n (m := m1) (e := e1) (n := n1) (f := f1) (s := .slice xA1 (zl m1) xc1) (t := .slice xB1 (zl n1) xd1) (L.getN (by simp)) (L.getN (by simp))) L.below).mono ?_
  rintro e w12 ⟨vv, rfl, ii, be⟩
  obtain ⟨sA, sc, sB, sd, rfl, ia, ib⟩ := ii.form
  replace L := ((L.step be).n ib).n ia
  clear be ii ia ib
  have hl9 := L.b0.lt
  replace L := L.varI w12.heap.size rfl (ng S) sA (zl S) sc F (ng S2) sB (zl S2) sd F2
  have v0' := L.b0.c60
  have v1' := L.b0.c61
  have v2' := L.b0.c62
  have v3' := L.b0.c63
  have v4' := L.b0.c64
  have v5' := L.b0.c65
  go_wp2_with fail
  clear v0' v1' v2' v3' v4' v5'
  obtain ⟨gs, hgs⟩ : ∃ g9, w12.heap.size = g9 := ⟨_, rfl⟩
  rw [hgs] at L hl9 ⊢
  clear hgs
  have hgs := hl9
  clear hl9
  refine (U2.out _ _ (isI_n (m := S) (e := F) (n := S2) (f := F2) (s := .slice sA (zl S) sc) (t := .slice sB (zl S2) sd) (L.getN (by simp)) (L.getN (by simp))) L.below).mono ?_
  rintro e w13 ⟨vv, rfl, ii, be⟩
  obtain ⟨rA, rc, rB, rd, rfl, ia, ib⟩ := ii.form
  replace L := ((L.step be).n ib).n ia
  clear be ii ia ib
  have hl9 := L.b0.lt
  replace L := L.varI w13.heap.size rfl (ng M) rA (zl M) rc E (ng N) rB (zl N) rd G
  have v0' := L.b0.c60
  have v1' := L.b0.c61
  have v2' := L.b0.c62
  have v3' := L.b0.c63
  have v4' := L.b0.c64
  have v5' := L.b0.c65
  have w0' := L.tl.tl.tl.b0.cT6
  have w1' := L.tl.tl.tl.b0.cT7
  have w2' := L.tl.tl.tl.b0.cT8
  have w3' := L.tl.tl.tl.b0.cT9
  have w4' := L.tl.tl.tl.b0.cT10
  have w5' := L.tl.tl.tl.b0.cT11
  go_wp2_with fail
  clear v0' v1' v2' v3' v4' v5' w0' w1' w2' w3' w4' w5'
  obtain ⟨gr, hgr⟩ : ∃ g9, w13.heap.size = g9 := ⟨_, rfl⟩
  rw [hgr] at L hl9 ⊢
  clear hgr
  have hgr := hl9
  clear hl9
  refine (U3.out _ _ (isI_n (m := m2) (e := e2) (n := n2) (f := f2) (s := .slice xA2 (zl m2) xc2) (t := .slice xB2 (zl n2) xd2) (L.getN (by simp)) (L.getN (by simp))) L.below).mono ?_
  rintro e w14 ⟨vv, rfl, ii, be⟩
  obtain ⟨hA, hc, hB, hd, rfl, ia, ib⟩ := ii.form
  replace L := ((L.step be).n ib).n ia
  clear be ii ia ib
  have hl9 := L.b0.lt
  replace L := L.varI w14.heap.size rfl (ng P) hA (zl P) hc Q (ng P2) hB (zl P2) hd Q2
  have v0' := L.b0.c60
  have v1' := L.b0.c61
  have v2' := L.b0.c62
  have v3' := L.b0.c63
  have v4' := L.b0.c64
  have v5' := L.b0.c65
  go_wp2_with fail
  clear v0' v1' v2' v3' v4' v5'
  obtain ⟨gh, hgh⟩ : ∃ g9, w14.heap.size = g9 := ⟨_, rfl⟩
  rw [hgh] at L hl9 ⊢
  clear hgh
  have hgh := hl9
  clear hl9
  refine (G10.out _).mono ?_
  rintro e w15 ⟨v3, rfl, id, be⟩
  obtain ⟨A8, c8, rfl, _, in9⟩ := id.form
  replace L := (L.step be).n in9
  clear be id in9
  (try go_wp2_with fail)
  refine (G10.out _).mono ?_
  rintro e w16 ⟨v4, rfl, id, be⟩
  obtain ⟨A9, c9, rfl, _, in9⟩ := id.form
  replace L := (L.step be).n in9
  clear be id in9
  have hl9 := L.b0.lt
  replace L := L.varI w16.heap.size rfl (ng MT) A8 (zl MT) c8 ET (ng MT) A9 (zl MT) c9 ET
  have v0' := L.b0.c60
  have t0' := L.tl.tl.tl.tl.tl.b0.cT0
  have r0' := L.tl.tl.b0.c60
  have v1' := L.b0.c61
  have t1' := L.tl.tl.tl.tl.tl.b0.cT1
  have r1' := L.tl.tl.b0.c61
  have v2' := L.b0.c62
  have t2' := L.tl.tl.tl.tl.tl.b0.cT2
  have r2' := L.tl.tl.b0.c62
  have v3' := L.b0.c63
  have t3' := L.tl.tl.tl.tl.tl.b0.cT3
  have r3' := L.tl.tl.b0.c63
  have v4' := L.b0.c64
  have t4' := L.tl.tl.tl.tl.tl.b0.cT4
  have r4' := L.tl.tl.b0.c64
  have v5' := L.b0.c65
  have t5' := L.tl.tl.tl.tl.tl.b0.cT5
  have r5' := L.tl.tl.b0.c65
  go_wp2_with fail
  clear v0' t0' r0' v1' t1' r1' v2' t2' r2' v3' t3' r3' v4' t4' r4' v5' t5' r5'
  obtain ⟨gt, hgt⟩ : ∃ g9, w16.heap.size = g9 := ⟨_, rfl⟩
  rw [hgt] at L hl9 ⊢
  clear hgt
  refine (U4.out _ _ _ (isI_n (m := m1) (e := e1) (n := n1) (f := f1) (s := .slice xA1 (zl m1) xc1) (t := .slice xB1 (zl n1) xd1) (L.getN (by simp)) (L.getN (by simp))) (isI_n (m := M) (e := E) (n := N) (f := G) (s := .slice rA (zl M) rc) (t := .slice rB (zl N) rd) (L.getN (by simp)) (L.getN (by simp)))).mono ?_
  rintro e w17 ⟨rfl, be⟩
  replace L := L.step be
  clear be
  by_cases h8 : (k : Int) < 8
  · have b8 : decide ((k : Int) < 8) = true := decide_eq_true h8
    (try go_wp2_with fail)
    (try go_ret)
    exact ⟨rfl, L.below⟩
  · have b8 : decide ((k : Int) < 8) = false := decide_eq_false h8
    have b5 : decide (z5 < 0) = true := decide_eq_true (n5 (by omega))
    have b6 : decide (z6 < 0) = true := decide_eq_true (n6 (by omega))
    have v0' := L.b0.c60
    have s0' := L.tl.tl.tl.b0.c60
    have v1' := L.b0.c61
    have s1' := L.tl.tl.tl.b0.c61
    have v2' := L.b0.c62
    have s2' := L.tl.tl.tl.b0.c62
    have v3' := L.b0.c63
    have s3' := L.tl.tl.tl.b0.c63
    have v4' := L.b0.c64
    have s4' := L.tl.tl.tl.b0.c64
    have v5' := L.b0.c65
    have s5' := L.tl.tl.tl.b0.c65
    (try go_wp2_with fail)
    clear v0' s0' v1' s1' v2' s2' v3' s3' v4' s4' v5' s5'
    refine (U5.out _ _ _ (isI_n (m := S) (e := F) (n := S2) (f := F2) (s := .slice sA (zl S) sc) (t := .slice sB (zl S2) sd) (L.getN (by simp)) (L.getN (by simp))) (isI_n (m := MT) (e := ET) (n := MT) (f := ET) (s := .slice A8 (zl MT) c8) (t := .slice A9 (zl MT) c9) (L.getN (by simp)) (L.getN (by simp)))).mono ?_
    rintro e w18 ⟨rfl, be⟩
    replace L := L.step be
    clear be
    have v0' := L.tl.b0.c60
    have s0' := L.tl.tl.tl.b0.c60
    have v1' := L.tl.b0.c61
    have s1' := L.tl.tl.tl.b0.c61
    have v2' := L.tl.b0.c62
    have s2' := L.tl.tl.tl.b0.c62
    have v3' := L.tl.b0.c63
    have s3' := L.tl.tl.tl.b0.c63
    have v4' := L.tl.b0.c64
    have s4' := L.tl.tl.tl.b0.c64
    have v5' := L.tl.b0.c65
    have s5' := L.tl.tl.tl.b0.c65
    (try go_wp2_with fail)
    clear v0' s0' v1' s1' v2' s2' v3' s3' v4' s4' v5' s5'
    refine (U6.out _ _ _ (isI_n (m := P) (e := Q) (n := P2) (f := Q2) (s := .slice hA (zl P) hc) (t := .slice hB (zl P2) hd) (L.getN (by simp)) (L.getN (by simp))) (isI_n (m := S) (e := F) (n := S2) (f := F2) (s := .slice sA (zl S) sc) (t := .slice sB (zl S2) sd) (L.getN (by simp)) (L.getN (by simp)))).mono ?_
    rintro e w19 ⟨rfl, be⟩
    replace L := L.step be
    clear be
    (try go_wp2_with fail)
    (try go_ret)
    exact ⟨rfl, L.below⟩


end Go.Proofs.YtfnklkdbieikeaaGreatDoor
