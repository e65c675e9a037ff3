/- The program's arith: combined. -/
import Derived.Test.YthfabjpbdgieoaaGreatDoorArPB
import Derived.Test.YthfabjpbdgieoaaGreatDoorBaseZ
import Derived.Test.YthfabjpbdgieoaaGreatDoorArApp
import Derived.Test.YthfabjpbdgieoaaGreatDoorBaseX
import Derived.Deep.RegionHeld3
import Derived.Deep.DrawnRows
import Derived.Deep.Cut
import Derived.Deep.CutRange
namespace Go.Proofs.YthfabjpbdgieoaaGreatDoor
open Go.RowKit
set_option linter.unusedVariables false
set_option linter.unusedSimpArgs false
set_option maxRecDepth 100000
attribute [local go_sem ↓] Go.wp_at_zero Go.wp_at_succ

/-- A slice of pairs of dyadics: what its elements stand for. -/
def RowI (w : World) (v : Value) (l : List (Int × Int × Int × Int)) : Prop := ∃ g c, v = .slice (some ⟨g, 0, none⟩) l.length c ∧ g < w.heap.size ∧ ∀ (j : Nat) (p : Int × Int × Int × Int), l[j]? = some p → ∃ A c B d, w.cell? ⟨g, 6 * j, none⟩ = some (.bool (ng p.1)) ∧ w.cell? ⟨g, 6 * j + 1, none⟩ = some (.slice A (zl p.1) c) ∧ w.cell? ⟨g, 6 * j + 2, none⟩ = some (.int .i64 p.2.1) ∧ w.cell? ⟨g, 6 * j + 3, none⟩ = some (.bool (ng p.2.2.1)) ∧ w.cell? ⟨g, 6 * j + 4, none⟩ = some (.slice B (zl p.2.2.1) d) ∧ w.cell? ⟨g, 6 * j + 5, none⟩ = some (.int .i64 p.2.2.2) ∧ IsN w (.slice A (zl p.1) c) p.1.natAbs ∧ IsN w (.slice B (zl p.2.2.1) d) p.2.2.1.natAbs
theorem RowI.at {w w' : World} {g c n : Nat} {l : List (Int × Int × Int × Int)} (h : RowI w (.slice (some ⟨g, 0, none⟩) n c) l) (hb : Below w.heap.size w w') {j : Nat} {p : Int × Int × Int × Int} (hp : l[j]? = some p) : ∃ A c B d, w'.cell? ⟨g, 6 * j, none⟩ = some (.bool (ng p.1)) ∧ w'.cell? ⟨g, 6 * j + 1, none⟩ = some (.slice A (zl p.1) c) ∧ w'.cell? ⟨g, 6 * j + 2, none⟩ = some (.int .i64 p.2.1) ∧ w'.cell? ⟨g, 6 * j + 3, none⟩ = some (.bool (ng p.2.2.1)) ∧ w'.cell? ⟨g, 6 * j + 4, none⟩ = some (.slice B (zl p.2.2.1) d) ∧ w'.cell? ⟨g, 6 * j + 5, none⟩ = some (.int .i64 p.2.2.2) ∧ IsN w' (.slice A (zl p.1) c) p.1.natAbs ∧ IsN w' (.slice B (zl p.2.2.1) d) p.2.2.1.natAbs := by
  obtain ⟨g', c', r, hg, h⟩ := h
  simp only [Value.slice.injEq, Option.some.injEq, Addr.mk.injEq, and_true] at r
  obtain ⟨rfl, _, _⟩ := r
  obtain ⟨A, c, B, d, h0, h1, h2, h3, h4, h5, h6, h7⟩ := h j p hp
  exact ⟨A, c, B, d, (hb.cell (p := ⟨g, 6 * j, none⟩) hg).trans h0, (hb.cell (p := ⟨g, 6 * j + 1, none⟩) hg).trans h1, (hb.cell (p := ⟨g, 6 * j + 2, none⟩) hg).trans h2, (hb.cell (p := ⟨g, 6 * j + 3, none⟩) hg).trans h3, (hb.cell (p := ⟨g, 6 * j + 4, none⟩) hg).trans h4, (hb.cell (p := ⟨g, 6 * j + 5, none⟩) hg).trans h5, h6.mono hb, h7.mono hb⟩
theorem lit3_cells (w : World) (a b c : Value) (ty : TypeId) (g : Nat) (hg : w.heap.size = g) : ∀ (j : Nat) (u : Value), [a, b, c][j]? = some u → (w.alloc (.cells #[a, b, c] ty)).cell? ⟨g, j, none⟩ = some u := fun j u hj => by
  subst hg
  rw [cell_of_row _ w.heap.size j #[a, b, c] ty _ (heap_alloc_new w _)]
  simpa using hj
theorem take_next {l : List (Int × Int × Int × Int)} {r : Int × Int × Int × Int → Int × Int} {t : Nat} {p : Int × Int × Int × Int} {q : Int × Int} (hp : l[t]? = some p) (hr : r p = q) : (l.map r).take (t + 1) = (l.map r).take t ++ [q] := by
  rw [List.take_add_one, List.getElem?_map, hp]
  simp [hr]
/-- The least and the greatest of the results. -/
theorem lst_is {l : List (Int × Int × Int × Int)} {r : Int × Int × Int × Int → Int × Int} {lo : Rat} {m e : Int} (h : (∃ p ∈ l, dOf (r p) = lo) ∧ ∀ p ∈ l, lo ≤ dOf (r p)) (hm : (m, e) ∈ l.map r) (hle : ∀ q ∈ l.map r, dOf (m, e) ≤ dOf q) : dq m e = lo := by
  obtain ⟨⟨p, hp, e1⟩, h2⟩ := h
  obtain ⟨q, hq, e2⟩ := List.mem_map.1 hm
  refine Rat.le_antisymm ?_ ?_
  · rw [← e1]; exact hle _ (List.mem_map.2 ⟨p, hp, rfl⟩)
  · have := h2 q hq
    rw [e2] at this
    exact this
theorem mst_is {l : List (Int × Int × Int × Int)} {r : Int × Int × Int × Int → Int × Int} {hi : Rat} {m e : Int} (h : (∃ p ∈ l, dOf (r p) = hi) ∧ ∀ p ∈ l, dOf (r p) ≤ hi) (hm : (m, e) ∈ l.map r) (hle : ∀ q ∈ l.map r, dOf q ≤ dOf (m, e)) : dq m e = hi := by
  obtain ⟨⟨p, hp, e1⟩, h2⟩ := h
  obtain ⟨q, hq, e2⟩ := List.mem_map.1 hm
  refine Rat.le_antisymm ?_ ?_
  · have := h2 q hq
    rw [e2] at this
    exact this
  · rw [← e1]; exact hle _ (List.mem_map.2 ⟨p, hp, rfl⟩)

set_option maxHeartbeats 16000000 in
theorem acomb_any (kop : Nat) (hen : ∀ args w, (callFunc kop args).run Tryz.prog w = .ok (.enter kop args) w) (l : List (Int × Int × Int × Int)) (r : Int × Int × Int × Int → Int × Int) (lo hi : Rat) (k : Int) (vl : Value) (w : World) (hl : RowI w vl l) (h0 : 0 < l.length) (hsz : l.length ≤ 1000) (hop : ∀ p ∈ l, ∀ vx vy W, IsD W vx p.1 p.2.1 → IsD W vy p.2.2.1 p.2.2.2 → Below w.heap.size w W → Calls Tryz.prog kop #[vx, vy] W (RetDE W (r p).1 (r p).2 0)) (hrb : ∀ p ∈ l, zl (r p).1 ≤ 500 ∧ (-10000 ≤ (r p).2 ∧ (r p).2 ≤ 10000)) (hlo : (∃ p ∈ l, dOf (r p) = lo) ∧ ∀ p ∈ l, lo ≤ dOf (r p)) (hhi : (∃ p ∈ l, dOf (r p) = hi) ∧ ∀ p ∈ l, dOf (r p) ≤ hi) (hk1 : -9223372036854775808 ≤ k) (hk2 : k ≤ 9223372036854775807) (hT : Tab w) :
    Calls Tryz.prog 75 #[.func (.func kop) #[] #[], .int .i64 k, vl] w (RetEn w lo hi k) := by
  obtain ⟨g, c, rfl, hg, _⟩ := id hl
  have HW0 := fun W => aperm_any k W
  have HROWI := Lib.hid hl
  have HOP := Lib.hid hop
  have HRB := Lib.hid hrb
  have HLO := Lib.hid hlo
  have HHI := Lib.hid hhi
  have HT := Lib.hid (fun W (hW : Below w.heap.size w W) => hT.mono hW)
  clear hl hop hrb hlo hhi hT
  cases hw : workB k
  · rw [hw] at HW0
    have HW := Lib.hid HW0
    have HWK := Lib.hid hw
    clear HW0 hw
    go_enter Tryz.func75, Tryz.ntmps75
    go_wp2_with fail
    have L := ((Lq.mk0 w).varI (w.heap.size) (by simp) false none 0 0 0 false none 0 0 0)
    have c00 := L.b0.c60
    have f00 := L.b0.fr 0
    have c01 := L.b0.c61
    have f01 := L.b0.fr 1
    have c02 := L.b0.c62
    have f02 := L.b0.fr 2
    have c03 := L.b0.c63
    have f03 := L.b0.fr 3
    have c04 := L.b0.c64
    have f04 := L.b0.fr 4
    have c05 := L.b0.c65
    have f05 := L.b0.fr 5
    (try go_wp2_with fail)
    refine (HW.out _).mono ?_
    rintro e9 w' ⟨rfl, rfl⟩
    (try go_wp2_with fail)
    exact bodyPost_ret (v := .tuple #[.agg #[.bool false, .slice none 0 0, .int .i64 0, .bool false, .slice none 0 0, .int .i64 0], .int .i64 1]) (by simp [results, Tryz.results75, go_sem, c00, c01, c02, c03, c04, c05]) rfl (by unfold RetEn; rw [if_neg (by rw [HWK.out]; decide)]; exact ⟨_, rfl, isI_zero _, L.below⟩)
  · rw [hw] at HW0
    have HW := Lib.hid HW0
    have HWK := Lib.hid hw
    obtain ⟨n, hn⟩ : ∃ n, l.length = n := ⟨_, rfl⟩
    rw [hn] at h0 hsz ⊢
    have HN := Lib.hid hn
    have hn0 : (0 : Int) < (n : Int) := by omega
    clear HW0 hw hn
    go_enter Tryz.func75, Tryz.ntmps75
    go_wp2_with fail
    have L := ((Lq.mk0 w).varI (w.heap.size) (by simp) false none 0 0 0 false none 0 0 0)
    have c00 := L.b0.c60
    have f00 := L.b0.fr 0
    have c01 := L.b0.c61
    have f01 := L.b0.fr 1
    have c02 := L.b0.c62
    have f02 := L.b0.fr 2
    have c03 := L.b0.c63
    have f03 := L.b0.fr 3
    have c04 := L.b0.c64
    have f04 := L.b0.fr 4
    have c05 := L.b0.c65
    have f05 := L.b0.fr 5
    (try go_wp2_with fail)
    refine (HW.out _).mono ?_
    rintro e9 w' ⟨rfl, rfl⟩
    (try go_wp2_with fail)
    clear c00 f00 c01 f01 c02 f02 c03 f03 c04 f04 c05 f05
    obtain ⟨V, hV⟩ : ∃ V, w.alloc (.cells #[.bool false, .slice none 0 0, .int .i64 0, .bool false, .slice none 0 0, .int .i64 0] 28) = V := ⟨_, rfl⟩
    rw [hV] at L ⊢
    clear hV
    have hwV := L.b0.lt
    have LL := Lib.hid L
    clear L
    go_loopw [8, 21] (fun s i wr => ∃ t : Nat, i = .int .i64 (t : Int) ∧ t ≤ n ∧ Below V.heap.size V wr ∧ OwnDy wr V.heap.size s ((l.map r).take t)) (fun _ i _ => n - (intOf i).toNat)
    case atStart => exact ⟨0, rfl, by omega, Below.refl _ _, OwnDy.nil _ _⟩
    case round =>
      obtain ⟨t, rfl, ht, hbe, hown⟩ := hrel
      have hbs := hbe.size
      rcases Nat.eq_or_lt_of_le ht with rfl | ht3
      · have hln := HN.out
        rw [List.take_of_length_le (by rw [List.length_map]; omega)] at hown
        have hrow := hown.row (by rw [List.length_map]; omega)
        have HMN := Lib.hid (fun W (hW : Below wr.heap.size wr W) => aminf_any (l.map r) _ W (hrow.mono hW) (by rw [List.length_map]; omega) (by rw [List.length_map]; omega) (fun q hq => by obtain ⟨p, hp, rfl⟩ := List.mem_map.1 hq; have := HRB.out p hp; omega))
        have HMX := Lib.hid (fun W (hW : Below wr.heap.size wr W) => amaxf_any (l.map r) _ W (hrow.mono hW) (by rw [List.length_map]; omega) (by rw [List.length_map]; omega) (fun q hq => by obtain ⟨p, hp, rfl⟩ := List.mem_map.1 hq; have := HRB.out p hp; omega))
        have L := LL.out.step hbe
        have hwr : w.heap.size < wr.heap.size := by omega
        clear hown hrow HROWI HOP hln
        go_wp2_with fail
        refine (HMN.out _ (Below.refl _ _)).mono ?_
        rintro e9 w1 ⟨v1, m1, e1, rfl, id, hm1, hle1, be⟩
        have be1 := be
        have x1 := lst_is HLO.out hm1 hle1
        have bd1 : zl m1 ≤ 500 ∧ (-10000 ≤ e1 ∧ e1 ≤ 10000) := by obtain ⟨p, hp, e9⟩ := List.mem_map.1 hm1; have := HRB.out p hp; rw [e9] at this; exact this
        obtain ⟨A8, c8, rfl, _, in9⟩ := id.form
        replace L := (L.step be).n in9
        clear id in9 be hm1 hle1
        go_wp2_with fail
        refine (HMX.out _ be1).mono ?_
        rintro e9 w2 ⟨v2, m2, e2, rfl, id, hm2, hle2, be⟩
        have x2 := mst_is HHI.out hm2 hle2
        have bd2 : zl m2 ≤ 500 ∧ (-10000 ≤ e2 ∧ e2 ≤ 10000) := by obtain ⟨p, hp, e9⟩ := List.mem_map.1 hm2; have := HRB.out p hp; rw [e9] at this; exact this
        obtain ⟨A9, c9, rfl, _, in9⟩ := id.form
        replace L := (L.step be).n in9
        have HEN := Lib.hid (fun v u W h1 h2 (hW : Below w.heap.size w W) => aenclD_any m1 e1 m2 e2 k v u W h1 h2 bd1.1 bd2.1 bd1.2 bd2.2 HWK.out (HT.out W hW))
        rw [x1, x2] at HEN
        clear id in9 be hm2 hle2 x1 x2 bd1 bd2 be1
        have hl2 := L.b0.lt
        replace L := (L.varD w2.heap.size rfl (ng m1) A8 (zl m1) c8 e1).varD (w2.heap.size + 1) (by simp) (ng m2) A9 (zl m2) c9 e2
        have c00 := L.b0.c30
        have c01 := L.b0.c31
        have c02 := L.b0.c32
        have c10 := L.tl.b0.c30
        have c11 := L.tl.b0.c31
        have c12 := L.tl.b0.c32
        go_wp2_with fail
        refine (HEN.out _ _ _ (isD_n (m := m1) (e := e1) (s := .slice A8 (zl m1) c8) (L.getN (by simp))) (isD_n (m := m2) (e := e2) (s := .slice A9 (zl m2) c9) (L.getN (by simp))) L.below).mono ?_
        intro e9 w19 hen
        obtain ⟨v19, er, m9, e9', n9, f9, rfl, ii, be, hback⟩ := hen.form
        obtain ⟨A5, c5, B5, d5, rfl, ia, ib⟩ := ii.form
        replace L := (((L.step be).n ib).n ia).pull2
        clear be ii ia ib hen
        have HBK := Lib.hid hback
        clear hback
        clear c00 c01 c02 c10 c11 c12
        have c00 := L.b0.c60
        have f00 := L.b0.fr 0
        have c01 := L.b0.c61
        have f01 := L.b0.fr 1
        have c02 := L.b0.c62
        have f02 := L.b0.fr 2
        have c03 := L.b0.c63
        have f03 := L.b0.fr 3
        have c04 := L.b0.c64
        have f04 := L.b0.fr 4
        have c05 := L.b0.c65
        have f05 := L.b0.fr 5
        go_wp2_with fail
        have LP := L.putI (by omega) (by first | (simp; done) | (simp; omega)) (ng m9) A5 (zl m9) c5 e9' (ng n9) B5 (zl n9) d5 f9
        have k0' := LP.b0.c60
        have k1' := LP.b0.c61
        have k2' := LP.b0.c62
        have k3' := LP.b0.c63
        have k4' := LP.b0.c64
        have k5' := LP.b0.c65
        unfold put6 at k0' k1' k2' k3' k4' k5'
        exact bodyPost_ret (v := .tuple #[.agg #[.bool (ng m9), .slice A5 (zl m9) c5, .int .i64 e9', .bool (ng n9), .slice B5 (zl n9) d5, .int .i64 f9], .int .i64 er]) (by simp [results, Tryz.results75, go_sem, k0', k1', k2', k3', k4', k5']) rfl (HBK.out _ _ _ (isI_n (LP.getN (by simp)) (LP.getN (by simp))) LP.below)
      · obtain ⟨⟨m, e, n', f'⟩, hp⟩ : ∃ p, l[t]? = some p := ⟨_, List.getElem?_eq_getElem (by rw [HN.out]; exact ht3)⟩
        obtain ⟨⟨M, E⟩, hr⟩ : ∃ q, r (m, e, n', f') = q := ⟨_, rfl⟩
        have HNX := Lib.hid (take_next hp hr)
        have hbw : Below w.heap.size w wr := LL.out.below.trans (hbe.mono LL.out.below.size)
        obtain ⟨A, c', B, d, y0, y1, y2, y3, y4, y5, i1, i2⟩ := HROWI.out.at hbw hp
        have HO2 := Lib.hid (fun v u W h1 h2 (hW : Below wr.heap.size wr W) => HOP.out _ (List.mem_of_getElem? hp) v u W h1 h2 (hbw.trans (hW.mono hbw.size)))
        dsimp only at y0 y1 y2 y3 y4 y5 i1 i2 HO2
        rw [hr] at HO2
        dsimp only at HO2
        rw [Nat.mul_comm 6 t] at y0 y1 y2 y3 y4 y5
        have HOWN := Lib.hid hown
        have hlt : (t : Int) < (n : Int) := by omega
        have htz : (0 : Int) ≤ (t : Int) := by omega
        clear hown hp hr
        have L := (((Lq.mk0 wr).n i2).n i1).var wr.heap.size rfl 96 #[.bool (ng m), .slice A (zl m) c', .int .i64 e, .bool (ng n'), .slice B (zl n') d, .int .i64 f'] (plain6 _ _ _ _ _ _ _ _ _ _)
        have c00 := L.b0.c60
        have c01 := L.b0.c61
        have c02 := L.b0.c62
        have c03 := L.b0.c63
        have c04 := L.b0.c64
        have c05 := L.b0.c65
        go_wp2_with fail
        clear y0 y1 y2 y3 y4 y5
        refine (HO2.out _ _ _ (isD_n (m := m) (e := e) (s := .slice A (zl m) c') (L.getN (by simp))) (isD_n (m := n') (e := f') (s := .slice B (zl n') d) (L.getN (by simp))) L.below).mono ?_
        rintro e w1 ⟨vv, rfl, id, be⟩
        clear c00 c01 c02 c03 c04 c05
        obtain ⟨A8, c8, rfl, _, in9⟩ := id.form
        replace L := (L.step be).n in9
        clear be id in9
        have hl8 := L.b0.lt
        replace L := L.varD w1.heap.size rfl (ng M) A8 (zl M) c8 E
        have c00 := L.b0.c30
        have c01 := L.b0.c31
        have c02 := L.b0.c32
        go_wp2_with (at_builtin; refine wp_appDy _ rfl _ _ rfl V.heap.size _ ((l.map r).take t) rfl (HOWN.out.below (L.below.alloc L.below.size _)) _ 1 rfl (lit3_cells _ _ _ _ _ _ (by simp)) ((L.getN (v := .slice A8 (zl M) c8) (x := M.natAbs) (by simp)).mono ((Below.refl _ _).alloc (Nat.le_refl _) _)) (by rw [List.length_take]; omega) (Nat.le_trans hbs (Nat.le_trans L.below.size (by simp))) ?_)
        intro v2 w2 h2 g2 _
        have b2 : Below V.heap.size V w2 := ((hbe.trans (L.below.mono hbs)).alloc (Nat.le_trans hbs L.below.size) _).grown g2 (Nat.le_trans hbs (Nat.le_trans L.below.size (by simp))) (fun k hk => HOWN.out.blockGe k hk)
        rw [← HNX.out] at h2
        clear c00 c01 c02
        clear L g2 HOWN HO2
        go_wp2_with fail
        go_roundw
        case rel => exact ⟨t + 1, by go_num, by omega, b2, h2⟩
        case measure => simp [intOf]; omega

end Go.Proofs.YthfabjpbdgieoaaGreatDoor
