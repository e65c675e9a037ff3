/- Joined: RefLnD, ExQ, RefExM, RefCoB, RefCoF, RefCoH, RefCoJ, RefLnA, ExG, LnL, ArPHp (what the law leans on). -/
import Derived.Test.YtmgbjldogggpcaaGreatDoorBaseJL
import Derived.Test.YtmgbjldogggpcaaGreatDoorBaseEL
import Derived.Test.YtmgbjldogggpcaaGreatDoorBaseML
import Derived.Test.YtmgbjldogggpcaaGreatDoorBaseVL
import Derived.Test.YtmgbjldogggpcaaGreatDoorBaseWL
import Derived.Test.YtmgbjldogggpcaaGreatDoorJL1
import Derived.Test.YtmgbjldogggpcaaGreatDoorJL2
import Derived.Deep.Cut
import Derived.Deep.CutRange
import Derived.Deep.DrawnRows
import Derived.Deep.LoopGhost
import Derived.Deep.RegionHeld3
import Derived.Deep.RegionWith
namespace Go.Proofs.YtmgbjldogggpcaaGreatDoor
set_option maxHeartbeats 64000000
open Go.RowKit
set_option linter.unusedVariables false
set_option linter.unusedSimpArgs false
set_option maxRecDepth 100000
attribute [local go_sem ↓] Go.wp_at_zero Go.wp_at_succ

theorem alloc_sz15 (w : World) (o : Obj) : (w.alloc o).heap.size = w.heap.size + 1:=by simp
theorem keep4 {V W : World} {g0 j0 : Nat} {v0 : Value} {g1 j1 : Nat} {v1 : Value} {g2 j2 : Nat} {v2 : Value} {g3 j3 : Nat} {v3 : Value} (q0 : ∀ Z, Below V.heap.size V Z → Z.cell? ⟨g0, j0, none⟩ = some v0) (q1 : ∀ Z, Below V.heap.size V Z → Z.cell? ⟨g1, j1, none⟩ = some v1) (q2 : ∀ Z, Below V.heap.size V Z → Z.cell? ⟨g2, j2, none⟩ = some v2) (q3 : ∀ Z, Below V.heap.size V Z → Z.cell? ⟨g3, j3, none⟩ = some v3) (h : Below V.heap.size V W) : W.cell? ⟨g0, j0, none⟩ = some v0 ∧ W.cell? ⟨g1, j1, none⟩ = some v1 ∧ W.cell? ⟨g2, j2, none⟩ = some v2 ∧ W.cell? ⟨g3, j3, none⟩ = some v3:=⟨q0 _ h, q1 _ h, q2 _ h, q3 _ h⟩
theorem keep8 {V W : World} {g0 j0 : Nat} {v0 : Value} {g1 j1 : Nat} {v1 : Value} {g2 j2 : Nat} {v2 : Value} {g3 j3 : Nat} {v3 : Value} {g4 j4 : Nat} {v4 : Value} {g5 j5 : Nat} {v5 : Value} {g6 j6 : Nat} {v6 : Value} {g7 j7 : Nat} {v7 : Value} (q0 : ∀ Z, Below V.heap.size V Z → Z.cell? ⟨g0, j0, none⟩ = some v0) (q1 : ∀ Z, Below V.heap.size V Z → Z.cell? ⟨g1, j1, none⟩ = some v1) (q2 : ∀ Z, Below V.heap.size V Z → Z.cell? ⟨g2, j2, none⟩ = some v2) (q3 : ∀ Z, Below V.heap.size V Z → Z.cell? ⟨g3, j3, none⟩ = some v3) (q4 : ∀ Z, Below V.heap.size V Z → Z.cell? ⟨g4, j4, none⟩ = some v4) (q5 : ∀ Z, Below V.heap.size V Z → Z.cell? ⟨g5, j5, none⟩ = some v5) (q6 : ∀ Z, Below V.heap.size V Z → Z.cell? ⟨g6, j6, none⟩ = some v6) (q7 : ∀ Z, Below V.heap.size V Z → Z.cell? ⟨g7, j7, none⟩ = some v7) (h : Below V.heap.size V W) : W.cell? ⟨g0, j0, none⟩ = some v0 ∧ W.cell? ⟨g1, j1, none⟩ = some v1 ∧ W.cell? ⟨g2, j2, none⟩ = some v2 ∧ W.cell? ⟨g3, j3, none⟩ = some v3 ∧ W.cell? ⟨g4, j4, none⟩ = some v4 ∧ W.cell? ⟨g5, j5, none⟩ = some v5 ∧ W.cell? ⟨g6, j6, none⟩ = some v6 ∧ W.cell? ⟨g7, j7, none⟩ = some v7:=⟨q0 _ h, q1 _ h, q2 _ h, q3 _ h, q4 _ h, q5 _ h, q6 _ h, q7 _ h⟩
theorem bl_alloc {a w : World} (o : Obj) (h : Below a.heap.size a w) : Below a.heap.size a (w.alloc o):=h.alloc h.size o
theorem bl_set {a w : World} {g j : Nat} (u : Value) (h : Below a.heap.size a w) (hp : a.heap.size ≤ g) : Below a.heap.size a (w.setCell ⟨g, j, none⟩ u):=h.setCell hp u
theorem c_set15 {w : World} {g j k i : Nat} {v u : Value} (h : w.cell? ⟨g, j, none⟩ = some v) (hne : g ≠ k) : (w.setCell ⟨k, i, none⟩ u).cell? ⟨g, j, none⟩ = some v:=by
 rw [World.cell?_of_block (w:=w) (a:=⟨g, j, none⟩) (heap_setCell_other w ⟨k, i, none⟩ g u hne)]
 exact h
theorem drew_sz15 (w : World) : w.drew.heap.size = w.heap.size:=rfl
theorem calls_sync2 {w0 w : World} {ns : List (Value × Nat)} {zs : List (Value × Int)} {qs : List (Value × Int × Nat)} {bs : List (Nat × TypeId × Array Value)} {F : Nat} {a : Array Value} {P : Ending → World → Prop} (h : Dq w0 w ns zs qs bs) (k : Dq w0 w ns zs qs bs → Calls Tryz.prog F a w P) : Calls Tryz.prog F a w P:=k h
theorem isN_z15 {w : World} {s : Value} {z : Int} (h : IsZ w (.agg #[.bool (ng z), s]) z) : IsN w s z.natAbs:=by
 obtain ⟨s', e, hs⟩:=h
 have e2 : s = s':=by simpa using e
 rw [e2]
 exact hs
section
variable {w0 w : World} {ns : List (Value × Nat)} {zs : List (Value × Int)} {qs : List (Value × Int × Nat)} {bs : List (Nat × TypeId × Array Value)}
theorem Dq.boxR2 (h : Dq w0 w ns zs qs bs) (b : Bool) (A : Option Addr) (p c : Nat) (b' : Bool) (B : Option Addr) (q d : Nat) : Dq w0 (w.alloc (.cells #[.bool b, .slice A p c, .bool b', .slice B q d] 24)) ns zs qs ((w.heap.size, 24, #[.bool b, .slice A p c, .bool b', .slice B q d]) :: bs):=by
 refine ⟨h.lq.var w.heap.size rfl _ _ (plain4 _ _ _ _ _ _ _ _), ?_, fun p hp => ?_⟩
 ·rw [List.map_cons, List.nodup_cons]
  refine ⟨fun hm => ?_, h.nodup⟩
  obtain ⟨r, hr, e⟩:=List.mem_map.1 hm
  have:=(h.lq.bs r hr).lt
  simp only at e
  omega
 ·simp only [List.mem_cons] at hp
  rcases hp with rfl | hp
  ·exact h.lq.below.size
  ·exact h.ge p hp
theorem Dq.one (h : Dq w0 w ns zs qs bs) {p : Nat × TypeId × Array Value} (hp : p ∈ bs) : Dq w0 w ns zs qs [p]:=
 ⟨⟨h.lq.below, h.lq.ns, h.lq.zs, h.lq.qs, fun x hx => h.lq.bs x (by rw [List.mem_singleton] at hx; rw [hx]; exact hp)⟩, by simp, fun x hx => h.ge x (by rw [List.mem_singleton] at hx; rw [hx]; exact hp)⟩
theorem Dq.two (h : Dq w0 w ns zs qs bs) {p q : Nat × TypeId × Array Value} (hp : p ∈ bs) (hq : q ∈ bs) (hne : p.1 ≠ q.1) : Dq w0 w ns zs qs [p, q]:=
 ⟨⟨h.lq.below, h.lq.ns, h.lq.zs, h.lq.qs, fun x hx => h.lq.bs x (by simp only [List.mem_cons, List.not_mem_nil, or_false] at hx; rcases hx with rfl | rfl <;> assumption)⟩, by simpa using hne, fun x hx => h.ge x (by simp only [List.mem_cons, List.not_mem_nil, or_false] at hx; rcases hx with rfl | rfl <;> assumption)⟩
end
def Made2S (w0 : World) (a b a2 b2 : Int) (s1 s2 : Value) (w' : World) : Prop:=∃ g1 g2 A c B d A2 c2 B2 d2, s1 = .pointer (some ⟨g1, 0, none⟩) ∧ s2 = .pointer (some ⟨g2, 0, none⟩) ∧ w0.heap.size ≤ g1 ∧ w0.heap.size ≤ g2 ∧ g1 ≠ g2 ∧ Below w0.heap.size w0 w' ∧ Var w' g1 79 #[.bool (ng a), .slice A (zl a) c, .bool (ng b), .slice B (zl b) d] ∧ Var w' g2 79 #[.bool (ng a2), .slice A2 (zl a2) c2, .bool (ng b2), .slice B2 (zl b2) d2] ∧ (IsN w' (.slice A (zl a) c) a.natAbs ∧ IsN w' (.slice B (zl b) d) b.natAbs) ∧ IsN w' (.slice A2 (zl a2) c2) a2.natAbs ∧ IsN w' (.slice B2 (zl b2) d2) b2.natAbs
section
variable {w0 w : World} {ns : List (Value × Nat)} {zs : List (Value × Int)} {qs : List (Value × Int × Nat)} {bs : List (Nat × TypeId × Array Value)} {a b a2 b2 : Int} {c d c2 d2 : Nat} {A B A2 B2 : Option Addr}
theorem made2s_of {w' : World} {g1 g2 : Nat} (D : Dq w0 w' ns zs qs [(g1, 79, #[.bool (ng a), .slice A (zl a) c, .bool (ng b), .slice B (zl b) d]), (g2, 79, #[.bool (ng a2), .slice A2 (zl a2) c2, .bool (ng b2), .slice B2 (zl b2) d2])]) (h1 : (.slice A (zl a) c, a.natAbs) ∈ ns) (h2 : (.slice B (zl b) d, b.natAbs) ∈ ns) (h3 : (.slice A2 (zl a2) c2, a2.natAbs) ∈ ns) (h4 : (.slice B2 (zl b2) d2, b2.natAbs) ∈ ns) : Made2S w0 a b a2 b2 (.pointer (some ⟨g1, 0, none⟩)) (.pointer (some ⟨g2, 0, none⟩)) w':=by
 have hn:=D.nodup
 simp only [List.map_cons, List.map_nil, List.nodup_cons, List.mem_cons, List.not_mem_nil, or_false] at hn
 exact ⟨g1, g2, A, c, B, d, A2, c2, B2, d2, rfl, rfl, D.ge _ (List.mem_cons_self ..), D.ge _ (List.mem_cons_of_mem _ (List.mem_cons_self ..)), hn.1, D.lq.below, D.lq.b0, D.lq.tl.b0, ⟨D.getN h1, D.getN h2⟩, D.getN h3, D.getN h4⟩
theorem put4_size (w : World) (g : Nat) (b : Bool) (s : Value) (b' : Bool) (s' : Value) : (put4 w g b s b' s').heap.size = w.heap.size:=by
 unfold put4
 simp
theorem Dq.swapS {p q : Nat × TypeId × Array Value} (h : Dq w0 w ns zs qs [p, q]) : Dq w0 w ns zs qs [q, p]:=by
 have hn:=h.nodup
 simp only [List.map_cons, List.map_nil, List.nodup_cons, List.mem_cons, List.not_mem_nil, or_false] at hn
 exact h.two (by simp) (by simp) (fun e => hn.1 e.symm)
theorem made2s_a (D0 : Dq w0 w ns zs qs bs) (h1 : (.slice A (zl a) c, a.natAbs) ∈ ns) (h2 : (.slice B (zl b) d, b.natAbs) ∈ ns) (h3 : (.slice A2 (zl a2) c2, a2.natAbs) ∈ ns) (h4 : (.slice B2 (zl b2) d2, b2.natAbs) ∈ ns) : Made2S w0 a b a2 b2 (.pointer (some ⟨w.heap.size, 0, none⟩)) (.pointer (some ⟨w.heap.size + 1, 0, none⟩)) ((w.alloc (.cells #[.bool (ng a), .slice A (zl a) c, .bool (ng b), .slice B (zl b) d] 79)).alloc (.cells #[.bool (ng a2), .slice A2 (zl a2) c2, .bool (ng b2), .slice B2 (zl b2) d2] 79)):=by
 have E:=(D0.boxS (ng a) A (zl a) c (ng b) B (zl b) d).boxS (ng a2) A2 (zl a2) c2 (ng b2) B2 (zl b2) d2
 rw [alloc_sz15] at E
 exact made2s_of (E.two (by simp) (by simp) (by simp)) h1 h2 h3 h4
theorem made2s_b (D0 : Dq w0 w ns zs qs bs) (h1 : (.slice A (zl a) c, a.natAbs) ∈ ns) (h2 : (.slice B (zl b) d, b.natAbs) ∈ ns) (h3 : (.slice A2 (zl a2) c2, a2.natAbs) ∈ ns) (h4 : (.slice B2 (zl b2) d2, b2.natAbs) ∈ ns) : Made2S w0 a b a2 b2 (.pointer (some ⟨w.heap.size + 1, 0, none⟩)) (.pointer (some ⟨w.heap.size, 0, none⟩)) ((w.alloc (.cells #[.bool (ng a2), .slice A2 (zl a2) c2, .bool (ng b2), .slice B2 (zl b2) d2] 79)).alloc (.cells #[.bool (ng a), .slice A (zl a) c, .bool (ng b), .slice B (zl b) d] 79)):=by
 have E:=(D0.boxS (ng a2) A2 (zl a2) c2 (ng b2) B2 (zl b2) d2).boxS (ng a) A (zl a) c (ng b) B (zl b) d
 rw [alloc_sz15] at E
 exact made2s_of (E.two (by simp) (by simp) (by simp)) h1 h2 h3 h4
theorem made2s_c {g : Nat} {x y : Bool} {s s' : Value} (D0 : Dq w0 w ns zs qs bs) (hm : (g, 79, #[.bool x, s, .bool y, s']) ∈ bs) (h1 : (.slice A (zl a) c, a.natAbs) ∈ ns) (h2 : (.slice B (zl b) d, b.natAbs) ∈ ns) (h3 : (.slice A2 (zl a2) c2, a2.natAbs) ∈ ns) (h4 : (.slice B2 (zl b2) d2, b2.natAbs) ∈ ns) : Made2S w0 a b a2 b2 (.pointer (some ⟨g, 0, none⟩)) (.pointer (some ⟨w.heap.size, 0, none⟩)) (((((w.setCell ⟨g, 0, none⟩ (.bool (ng a))).setCell ⟨g, 1, none⟩ (.slice A (zl a) c)).setCell ⟨g, 2, none⟩ (.bool (ng b))).setCell ⟨g, 3, none⟩ (.slice B (zl b) d)).alloc (.cells #[.bool (ng a2), .slice A2 (zl a2) c2, .bool (ng b2), .slice B2 (zl b2) d2] 79)):=by
 have E:=((D0.one hm).putS g (ng a) A (zl a) c (ng b) B (zl b) d).boxMS (put4_size _ _ _ _ _ _) (ng a2) A2 (zl a2) c2 (ng b2) B2 (zl b2) d2
 unfold put4 at E
 exact made2s_of E.swapS h1 h2 h3 h4
theorem made2s_d {g : Nat} {x y : Bool} {s s' : Value} (D0 : Dq w0 w ns zs qs bs) (hm : (g, 79, #[.bool x, s, .bool y, s']) ∈ bs) (h1 : (.slice A (zl a) c, a.natAbs) ∈ ns) (h2 : (.slice B (zl b) d, b.natAbs) ∈ ns) (h3 : (.slice A2 (zl a2) c2, a2.natAbs) ∈ ns) (h4 : (.slice B2 (zl b2) d2, b2.natAbs) ∈ ns) : Made2S w0 a b a2 b2 (.pointer (some ⟨w.heap.size, 0, none⟩)) (.pointer (some ⟨g, 0, none⟩)) (((((w.setCell ⟨g, 0, none⟩ (.bool (ng a2))).setCell ⟨g, 1, none⟩ (.slice A2 (zl a2) c2)).setCell ⟨g, 2, none⟩ (.bool (ng b2))).setCell ⟨g, 3, none⟩ (.slice B2 (zl b2) d2)).alloc (.cells #[.bool (ng a), .slice A (zl a) c, .bool (ng b), .slice B (zl b) d] 79)):=by
 have E:=((D0.one hm).putS g (ng a2) A2 (zl a2) c2 (ng b2) B2 (zl b2) d2).boxMS (put4_size _ _ _ _ _ _) (ng a) A (zl a) c (ng b) B (zl b) d
 unfold put4 at E
 exact made2s_of E h1 h2 h3 h4
theorem made2s_e {g k : Nat} {x y x' y' : Bool} {s s' r r' : Value} (D0 : Dq w0 w ns zs qs bs) (hm : (g, 79, #[.bool x, s, .bool y, s']) ∈ bs) (hk : (k, 79, #[.bool x', r, .bool y', r']) ∈ bs) (hne : g ≠ k) (h1 : (.slice A (zl a) c, a.natAbs) ∈ ns) (h2 : (.slice B (zl b) d, b.natAbs) ∈ ns) (h3 : (.slice A2 (zl a2) c2, a2.natAbs) ∈ ns) (h4 : (.slice B2 (zl b2) d2, b2.natAbs) ∈ ns) : Made2S w0 a b a2 b2 (.pointer (some ⟨g, 0, none⟩)) (.pointer (some ⟨k, 0, none⟩)) ((((((((w.setCell ⟨g, 0, none⟩ (.bool (ng a))).setCell ⟨g, 1, none⟩ (.slice A (zl a) c)).setCell ⟨g, 2, none⟩ (.bool (ng b))).setCell ⟨g, 3, none⟩ (.slice B (zl b) d)).setCell ⟨k, 0, none⟩ (.bool (ng a2))).setCell ⟨k, 1, none⟩ (.slice A2 (zl a2) c2)).setCell ⟨k, 2, none⟩ (.bool (ng b2))).setCell ⟨k, 3, none⟩ (.slice B2 (zl b2) d2)):=by
 have E:=(((D0.two hm hk hne).putS g (ng a) A (zl a) c (ng b) B (zl b) d).swapS).putS k (ng a2) A2 (zl a2) c2 (ng b2) B2 (zl b2) d2
 unfold put4 at E
 exact made2s_of E.swapS h1 h2 h3 h4
end

theorem s13div_any (a b m n : Int) (v : Nat) (vx vy : Value) (w : World) (hx : IsS w vx a b) (hy : IsS w vy m n) (la : zl a ≤ 1000) (lb : zl b ≤ 1000) (lm : zl m ≤ 1000) (ln : zl n ≤ 1000) (hab : a ≤ b) (hm : 0 < m) (hn0 : 0 < n) (hv : v ≤ 1000) :
  Calls Tryz.prog 65 #[vx, vy, .int .i64 (v : Int)] w (RetSp w (mn4 (a * 2 ^ v / m) (cdv (b * 2 ^ v) m) (a * 2 ^ v / n) (cdv (b * 2 ^ v) n)) (mx4 (a * 2 ^ v / m) (cdv (b * 2 ^ v) m) (a * 2 ^ v / n) (cdv (b * 2 ^ v) n))):=by
 obtain ⟨A, c, B, d, rfl, hn1, hn2⟩:=hx.form
 obtain ⟨E, k, G, i, rfl, hn3, hn4⟩:=hy.form
 have L0:=((((Lq.mk0 w).n hn4).n hn3).n hn2).n hn1
 have pv:=pow2_pos v
 have hXY : a * 2 ^ v ≤ b * 2 ^ v:=Int.mul_le_mul_of_nonneg_right hab (Int.le_of_lt pv)
 have zX:=zl_shl a v
 have zY:=zl_shl b v
 have g1:=fun x W h => rzshl_any a x W h (by omega) v (by omega)
 have g2:=fun x W h => rzshl_any b x W h (by omega) v (by omega)
 obtain ⟨X, hX⟩:=nm9 (a * 2 ^ v)
 obtain ⟨Y, hY⟩:=nm9 (b * 2 ^ v)
 rw [hX] at g1 zX hXY ⊢
 rw [hY] at g2 zY hXY ⊢
 have g3:=fun v u W (h : RowZ W v [X, Y]) k => s13hull_any [X, Y] X Y m v u W h k (by simp) (by simp) (fun p hp => by
  simp only [List.mem_cons, List.not_mem_nil, or_false] at hp
  rcases hp with rfl | rfl <;> omega) (lst_2 hXY) (mst_2 hXY) (by omega) hm
 have g4:=fun v u W (h : RowZ W v [X, Y]) k => s13hull_any [X, Y] X Y n v u W h k (by simp) (by simp) (fun p hp => by
  simp only [List.mem_cons, List.not_mem_nil, or_false] at hp
  rcases hp with rfl | rfl <;> omega) (lst_2 hXY) (mst_2 hXY) (by omega) hn0
 have y1:=zl_floor X hm
 have y2:=zl_cdv Y hm
 have y3:=zl_floor X hn0
 have y4:=zl_cdv Y hn0
 obtain ⟨p1, hp1⟩:=nm9 (X / m)
 obtain ⟨p2, hp2⟩:=nm9 (cdv Y m)
 obtain ⟨p3, hp3⟩:=nm9 (X / n)
 obtain ⟨p4, hp4⟩:=nm9 (cdv Y n)
 rw [hp1] at g3 y1 ⊢
 rw [hp2] at g3 y2 ⊢
 rw [hp3] at g4 y3 ⊢
 rw [hp4] at g4 y4 ⊢
 obtain ⟨o, ho⟩ : ∃ o : Int, 1 = o:=⟨_, rfl⟩
 have zo : zl o ≤ 1:=len_le1 (x:=o.natAbs) (by omega)
 have g5:=fun W => (rzof_any 1 W (by omega) (by omega)).mono (fun e w' h => (show RetZ W o e w' by rw [← ho]; exact h))
 have hlo:=lst_4 p1 p2 p3 p4
 have hhi:=mst_4 p1 p2 p3 p4
 have g6:=fun v u W (h : RowZ W v [p1, p2, p3, p4]) k => s13hull_any [p1, p2, p3, p4] (mn4 p1 p2 p3 p4) (mx4 p1 p2 p3 p4) o v u W h k (by simp) (by simp) (fun p hp => by
  simp only [List.mem_cons, List.not_mem_nil, or_false] at hp
  rcases hp with rfl | rfl | rfl | rfl <;> omega) hlo hhi (by omega) (by omega)
 obtain ⟨R, hR⟩:=nm9 (mn4 p1 p2 p3 p4)
 obtain ⟨S, hS⟩:=nm9 (mx4 p1 p2 p3 p4)
 rw [hR] at g6 ⊢
 rw [hS] at g6 ⊢
 have e1 : R / o = R:=by rw [← ho]; exact Int.ediv_one R
 have e2 : cdv S o = S:=by rw [← ho]; exact cdv_one S
 rw [e1, e2] at g6
 clear hXY zX zY y1 y2 y3 y4 hp1 hp2 hp3 hp4 ho zo hlo hhi hR hS e1 e2 hX hY hx hy hn1 hn2 hn3 hn4 la lb lm ln hab hm hn0 hv pv
 have G1:=Hd9 g1
 have G2:=Hd9 g2
 have G3:=Hd9 g3
 have G4:=Hd9 g4
 have G5:=Hd9 g5
 have G6:=Hd9 g6
 clear g1 g2 g3 g4 g5 g6
 go_enter Tryz.func65, Tryz.ntmps65
 go_wp2_with fail
 have L:=(((L0.varS (w.heap.size) (by simp) (ng a) A (zl a) c (ng b) B (zl b) d).varS (w.heap.size + 1) (by simp) (ng m) E (zl m) k (ng n) G (zl n) i).varS (w.heap.size + 2) (by simp) false none 0 0 false none 0 0)
 (try go_wp2_with fail)
 obtain ⟨V, hV, L9⟩:=L.name
 rw [hV]
 clear hV L
 have L:=L9
 clear L9
 have Q0:=Hd9 (fun Z (hZ : Below V.heap.size V Z) => (L.tl.tl.b0.mono hZ).c40)
 have Q1:=Hd9 (fun Z (hZ : Below V.heap.size V Z) => (L.tl.tl.b0.mono hZ).c41)
 have Q2:=Hd9 (fun Z (hZ : Below V.heap.size V Z) => (L.tl.tl.b0.mono hZ).c42)
 have Q3:=Hd9 (fun Z (hZ : Below V.heap.size V Z) => (L.tl.tl.b0.mono hZ).c43)
 have hb0:=L.tl.tl.b0.lt
 have D0 : Dq V V [(.slice A (zl a) c, (a : Int).natAbs), (.slice B (zl b) d, (b : Int).natAbs)] [] [] []:=⟨(((Lq.mk0 V).n (L.getN (v:=.slice B (zl b) d) (x:=(b : Int).natAbs) (by simp))).n (L.getN (v:=.slice A (zl a) c) (x:=(a : Int).natAbs) (by simp))), List.nodup_nil, fun p hp => by cases hp⟩
 have D:=D0.drew
 have hVw:=L.below.size
 have LL:=Hd9 L
 clear L
 obtain ⟨K, hK⟩:=nm9 (V.heap.size)
 have hz0 : K ≤ V.heap.size:=by omega
 have hmd : V.drew.heap.size = K:=hK
 have hc0 : w.heap.size < K:=by omega
 go_cut [7, 8] from 11 to 19 (fun s7 s8 wx => Made2Z V X Y s7 s8 wx)
 case first =>
  go_region_held3 (fun w' => w'.cell? ⟨w.heap.size, 0, none⟩ = some (.bool (ng a)) ∧ w'.cell? ⟨w.heap.size, 1, none⟩ = some (.slice A (zl a) c) ∧ w'.cell? ⟨w.heap.size, 2, none⟩ = some (.bool (ng b)) ∧ w'.cell? ⟨w.heap.size, 3, none⟩ = some (.slice B (zl b) d)) (((try dsimp only); refine keep4 Q0.out Q1.out Q2.out Q3.out ?_; (repeat (first | (with_reducible exact D.lq.below) | (with_reducible exact D0.lq.below) | (with_reducible refine Below.drew ?_) | (with_reducible refine bl_alloc _ ?_) | (with_reducible refine bl_set _ ?_ (by omega)))))) (first | (go_at_call 106; (with_reducible refine (G1.out _ _ ?_).mono ?_); (· (first | ((with_reducible refine isZ_s (D.getN ?_)); (repeat (first | (with_reducible exact mS) | apply mT)); done) | ((with_reducible refine isZ_s ((D.boxZ false none 0 0).getN ?_)); (repeat (first | (with_reducible exact mS) | apply mT)); done) | ((with_reducible refine isZ_s ((D.boxZ2 false none 0 0 false none 0 0).getN ?_)); (repeat (first | (with_reducible exact mS) | apply mT)); done) | ((with_reducible refine isZ_s ((D0.boxZ false none 0 0).drew.getN ?_)); (repeat (first | (with_reducible exact mS) | apply mT)); done) | ((with_reducible refine isZ_s ((D0.boxZ2 false none 0 0 false none 0 0).drew.getN ?_)); (repeat (first | (with_reducible exact mS) | apply mT)); done))); rintro e9 wh ⟨vh, rfl, iz, be⟩; (first | (replace D:=D.step be) | (replace D:=(D.boxMZ hmd false none 0 0).step be) | (replace D:=(D.boxMZ2 hmd false none 0 0 false none 0 0).step be) | (replace D:=(D.boxZ false none 0 0).step be) | (replace D:=(D.boxZ2 false none 0 0 false none 0 0).step be)); have hz:=be.size; (try simp at hz); replace D:=D.z iz; obtain ⟨A5, c5, rfl, _⟩:=iz.form; clear iz; (try (obtain ⟨q000,q001⟩:=D.lq.b0.a2; obtain ⟨q002,q003⟩:=D.lq.b0.f2)); (try (have q010:=(D.alloc (.cells #[.bool false, .slice none 0 0] 24)).lq.b0.c20; have q011:=(D.alloc (.cells #[.bool false, .slice none 0 0] 24)).lq.b0.c21; have q012:=(D.alloc (.cells #[.bool false, .slice none 0 0] 24)).lq.b0.fr 0; have q013:=(D.alloc (.cells #[.bool false, .slice none 0 0] 24)).lq.b0.fr 1)); (try (have q020:=((D.alloc (.cells #[.bool false, .slice none 0 0] 24)).alloc (.cells #[.bool false, .slice none 0 0] 24)).lq.b0.c20; have q021:=((D.alloc (.cells #[.bool false, .slice none 0 0] 24)).alloc (.cells #[.bool false, .slice none 0 0] 24)).lq.b0.c21; have q022:=((D.alloc (.cells #[.bool false, .slice none 0 0] 24)).alloc (.cells #[.bool false, .slice none 0 0] 24)).lq.b0.fr 0; have q023:=((D.alloc (.cells #[.bool false, .slice none 0 0] 24)).alloc (.cells #[.bool false, .slice none 0 0] 24)).lq.b0.fr 1)); (try (obtain ⟨q100,q101⟩:=D.lq.tl.b0.a2; obtain ⟨q102,q103⟩:=D.lq.tl.b0.f2)); (try (have q110:=(D.alloc (.cells #[.bool false, .slice none 0 0] 24)).lq.tl.b0.c20; have q111:=(D.alloc (.cells #[.bool false, .slice none 0 0] 24)).lq.tl.b0.c21; have q112:=(D.alloc (.cells #[.bool false, .slice none 0 0] 24)).lq.tl.b0.fr 0; have q113:=(D.alloc (.cells #[.bool false, .slice none 0 0] 24)).lq.tl.b0.fr 1)); (try (have q120:=((D.alloc (.cells #[.bool false, .slice none 0 0] 24)).alloc (.cells #[.bool false, .slice none 0 0] 24)).lq.tl.b0.c20; have q121:=((D.alloc (.cells #[.bool false, .slice none 0 0] 24)).alloc (.cells #[.bool false, .slice none 0 0] 24)).lq.tl.b0.c21; have q122:=((D.alloc (.cells #[.bool false, .slice none 0 0] 24)).alloc (.cells #[.bool false, .slice none 0 0] 24)).lq.tl.b0.fr 0; have q123:=((D.alloc (.cells #[.bool false, .slice none 0 0] 24)).alloc (.cells #[.bool false, .slice none 0 0] 24)).lq.tl.b0.fr 1)); (try obtain ⟨na, nb, nc, nd, nl⟩:=D.n0); (try obtain ⟨ne, nf, ng', nh, nm⟩:=D.n1); (try obtain ⟨ni, nj⟩:=D.n01)) | (go_at_call 106; (with_reducible refine (G2.out _ _ ?_).mono ?_); (· (first | ((with_reducible refine isZ_s (D.getN ?_)); (repeat (first | (with_reducible exact mS) | apply mT)); done) | ((with_reducible refine isZ_s ((D.boxZ false none 0 0).getN ?_)); (repeat (first | (with_reducible exact mS) | apply mT)); done) | ((with_reducible refine isZ_s ((D.boxZ2 false none 0 0 false none 0 0).getN ?_)); (repeat (first | (with_reducible exact mS) | apply mT)); done) | ((with_reducible refine isZ_s ((D0.boxZ false none 0 0).drew.getN ?_)); (repeat (first | (with_reducible exact mS) | apply mT)); done) | ((with_reducible refine isZ_s ((D0.boxZ2 false none 0 0 false none 0 0).drew.getN ?_)); (repeat (first | (with_reducible exact mS) | apply mT)); done))); rintro e9 wh ⟨vh, rfl, iz, be⟩; (first | (replace D:=D.step be) | (replace D:=(D.boxMZ hmd false none 0 0).step be) | (replace D:=(D.boxMZ2 hmd false none 0 0 false none 0 0).step be) | (replace D:=(D.boxZ false none 0 0).step be) | (replace D:=(D.boxZ2 false none 0 0 false none 0 0).step be)); have hz:=be.size; (try simp at hz); replace D:=D.z iz; obtain ⟨A6, c6, rfl, _⟩:=iz.form; clear iz; (try (obtain ⟨q000,q001⟩:=D.lq.b0.a2; obtain ⟨q002,q003⟩:=D.lq.b0.f2)); (try (have q010:=(D.alloc (.cells #[.bool false, .slice none 0 0] 24)).lq.b0.c20; have q011:=(D.alloc (.cells #[.bool false, .slice none 0 0] 24)).lq.b0.c21; have q012:=(D.alloc (.cells #[.bool false, .slice none 0 0] 24)).lq.b0.fr 0; have q013:=(D.alloc (.cells #[.bool false, .slice none 0 0] 24)).lq.b0.fr 1)); (try (have q020:=((D.alloc (.cells #[.bool false, .slice none 0 0] 24)).alloc (.cells #[.bool false, .slice none 0 0] 24)).lq.b0.c20; have q021:=((D.alloc (.cells #[.bool false, .slice none 0 0] 24)).alloc (.cells #[.bool false, .slice none 0 0] 24)).lq.b0.c21; have q022:=((D.alloc (.cells #[.bool false, .slice none 0 0] 24)).alloc (.cells #[.bool false, .slice none 0 0] 24)).lq.b0.fr 0; have q023:=((D.alloc (.cells #[.bool false, .slice none 0 0] 24)).alloc (.cells #[.bool false, .slice none 0 0] 24)).lq.b0.fr 1)); (try (obtain ⟨q100,q101⟩:=D.lq.tl.b0.a2; obtain ⟨q102,q103⟩:=D.lq.tl.b0.f2)); (try (have q110:=(D.alloc (.cells #[.bool false, .slice none 0 0] 24)).lq.tl.b0.c20; have q111:=(D.alloc (.cells #[.bool false, .slice none 0 0] 24)).lq.tl.b0.c21; have q112:=(D.alloc (.cells #[.bool false, .slice none 0 0] 24)).lq.tl.b0.fr 0; have q113:=(D.alloc (.cells #[.bool false, .slice none 0 0] 24)).lq.tl.b0.fr 1)); (try (have q120:=((D.alloc (.cells #[.bool false, .slice none 0 0] 24)).alloc (.cells #[.bool false, .slice none 0 0] 24)).lq.tl.b0.c20; have q121:=((D.alloc (.cells #[.bool false, .slice none 0 0] 24)).alloc (.cells #[.bool false, .slice none 0 0] 24)).lq.tl.b0.c21; have q122:=((D.alloc (.cells #[.bool false, .slice none 0 0] 24)).alloc (.cells #[.bool false, .slice none 0 0] 24)).lq.tl.b0.fr 0; have q123:=((D.alloc (.cells #[.bool false, .slice none 0 0] 24)).alloc (.cells #[.bool false, .slice none 0 0] 24)).lq.tl.b0.fr 1)); (try obtain ⟨na, nb, nc, nd, nl⟩:=D.n0); (try obtain ⟨ne, nf, ng', nh, nm⟩:=D.n1); (try obtain ⟨ni, nj⟩:=D.n01)))
  all_goals
   go_wp2_with fail
   go_meet
   first
   | ((with_reducible refine made2z_a D ?_ ?_) <;> (repeat (first | (with_reducible exact mS) | apply mT)))
   | ((with_reducible refine made2z_b D ?_ ?_) <;> (repeat (first | (with_reducible exact mS) | apply mT)))
   | ((with_reducible refine made2z_c D ?_ ?_) <;> (repeat (first | (with_reducible exact mS) | apply mT)))
   | ((with_reducible refine made2z_d D ?_ ?_) <;> (repeat (first | (with_reducible exact mS) | apply mT)))
   | ((with_reducible refine made2z_e D ?_ ?_) <;> (repeat (first | (with_reducible exact mS) | apply mT)))
   | ((with_reducible refine made2z_f D ?_ ?_) <;> (repeat (first | (with_reducible exact mS) | apply mT)))
 case rest =>
  obtain ⟨g1, g2, A1, c1, A2, c2, rfl, rfl, hg1, hg2, hg3, bw, hb8, hb9, hz1, hz2⟩:=hcut
  have hgl:=LL.out.b0.lt
  have L:=(((((LL.out.step bw).n (isN_z15 hz2)).n (isN_z15 hz1))).b hb9).b hb8
  clear D D0 hmd LL hb8 hb9 hz1 hz2 bw hVw hz0 hK hc0 Q0 Q1 Q2 Q3 G1 G2
  generalize wc = wd1 at *
  (try go_wp2_with fail)
  obtain ⟨V2, hV, L9⟩:=L.name
  rw [hV]
  clear hV L
  have L:=L9
  clear L9
  have Q0:=Hd9 (fun Z (hZ : Below V2.heap.size V2 Z) => (L.b0.mono hZ).c20)
  have Q1:=Hd9 (fun Z (hZ : Below V2.heap.size V2 Z) => (L.b0.mono hZ).c21)
  have Q2:=Hd9 (fun Z (hZ : Below V2.heap.size V2 Z) => (L.tl.b0.mono hZ).c20)
  have Q3:=Hd9 (fun Z (hZ : Below V2.heap.size V2 Z) => (L.tl.b0.mono hZ).c21)
  have Q4:=Hd9 (fun Z (hZ : Below V2.heap.size V2 Z) => (L.tl.tl.tl.b0.mono hZ).c40)
  have Q5:=Hd9 (fun Z (hZ : Below V2.heap.size V2 Z) => (L.tl.tl.tl.b0.mono hZ).c41)
  have Q6:=Hd9 (fun Z (hZ : Below V2.heap.size V2 Z) => (L.tl.tl.tl.b0.mono hZ).c42)
  have Q7:=Hd9 (fun Z (hZ : Below V2.heap.size V2 Z) => (L.tl.tl.tl.b0.mono hZ).c43)
  have hb0:=L.b0.lt
  have hb1:=L.tl.b0.lt
  have hb2:=L.tl.tl.tl.b0.lt
  have D0 : Dq V2 V2 [(.slice A1 (zl X) c1, (X : Int).natAbs), (.slice A2 (zl Y) c2, (Y : Int).natAbs), (.slice E (zl m) k, (m : Int).natAbs), (.slice G (zl n) i, (n : Int).natAbs)] [] [] []:=⟨(((((Lq.mk0 V2).n (L.getN (v:=.slice G (zl n) i) (x:=(n : Int).natAbs) (by simp))).n (L.getN (v:=.slice E (zl m) k) (x:=(m : Int).natAbs) (by simp))).n (L.getN (v:=.slice A2 (zl Y) c2) (x:=(Y : Int).natAbs) (by simp))).n (L.getN (v:=.slice A1 (zl X) c1) (x:=(X : Int).natAbs) (by simp))), List.nodup_nil, fun p hp => by cases hp⟩
  have D:=D0.drew
  have hVw:=L.below.size
  have LL:=Hd9 L
  clear L
  obtain ⟨K, hK⟩:=nm9 (V2.heap.size)
  have hz0 : K ≤ V2.heap.size:=by omega
  have hmd : V2.drew.heap.size = K:=hK
  have hc0 : g1 < K:=by omega
  have hc1 : g2 < K:=by omega
  have hc2 : w.heap.size + 1 < K:=by omega
  go_cut [9, 10] from 19 to 31 (fun s9 s10 wx => Made2S V2 p1 p2 p3 p4 s9 s10 wx)
  case first =>
   go_region_held3 (fun w' => w'.cell? ⟨g1, 0, none⟩ = some (.bool (ng X)) ∧ w'.cell? ⟨g1, 1, none⟩ = some (.slice A1 (zl X) c1) ∧ w'.cell? ⟨g2, 0, none⟩ = some (.bool (ng Y)) ∧ w'.cell? ⟨g2, 1, none⟩ = some (.slice A2 (zl Y) c2) ∧ w'.cell? ⟨w.heap.size + 1, 0, none⟩ = some (.bool (ng m)) ∧ w'.cell? ⟨w.heap.size + 1, 1, none⟩ = some (.slice E (zl m) k) ∧ w'.cell? ⟨w.heap.size + 1, 2, none⟩ = some (.bool (ng n)) ∧ w'.cell? ⟨w.heap.size + 1, 3, none⟩ = some (.slice G (zl n) i)) (((try dsimp only); refine keep8 Q0.out Q1.out Q2.out Q3.out Q4.out Q5.out Q6.out Q7.out ?_; (repeat (first | (with_reducible exact D.lq.below) | (with_reducible exact D0.lq.below) | (with_reducible refine Below.drew ?_) | (with_reducible refine bl_alloc _ ?_) | (with_reducible refine bl_set _ ?_ (by omega)))))) (first | (go_at_call 140; ((with_reducible apply calls_sync2); (repeat (first | (with_reducible exact D) | (with_reducible exact D0) | (with_reducible apply Dq.drew) | (with_reducible apply Dq.boxS) | (with_reducible apply Dq.boxR2))); intro D2; replace D:=D2; clear D2; (try simp only [alloc_sz15, drew_sz15, hK] at D)); (first | ((with_reducible refine (G3.out _ _ _ ?_ ?_).mono ?_); (· ((with_reducible refine rowZ_2 (D.lq.bs (_, 24, #[.bool (ng X), .slice A1 (zl X) c1, .bool (ng Y), .slice A2 (zl Y) c2]) ?_) (D.getN ?_) (D.getN ?_)) <;> (repeat (first | (with_reducible exact mS) | apply mT)); done)); (· ((with_reducible refine isZ_s (D.getN ?_)); (repeat (first | (with_reducible exact mS) | apply mT)); done)); rintro e9 wh ⟨vh, rfl, iq, be⟩; obtain ⟨A5, c5, B5, d5, rfl, ia, ib⟩:=iq.form; have hs9:=be.size; (try simp only [alloc_sz15, drew_sz15, hK] at hs9); replace D:=((D.step be).n ib).n ia; clear iq ia ib be) | ((with_reducible refine (G4.out _ _ _ ?_ ?_).mono ?_); (· ((with_reducible refine rowZ_2 (D.lq.bs (_, 24, #[.bool (ng X), .slice A1 (zl X) c1, .bool (ng Y), .slice A2 (zl Y) c2]) ?_) (D.getN ?_) (D.getN ?_)) <;> (repeat (first | (with_reducible exact mS) | apply mT)); done)); (· ((with_reducible refine isZ_s (D.getN ?_)); (repeat (first | (with_reducible exact mS) | apply mT)); done)); rintro e9 wh ⟨vh, rfl, iq, be⟩; obtain ⟨A6, c6, B6, d6, rfl, ia, ib⟩:=iq.form; have hs9:=be.size; (try simp only [alloc_sz15, drew_sz15, hK] at hs9); replace D:=((D.step be).n ib).n ia; clear iq ia ib be)); (first | (have hm2:=hm1; (try (have vb : Var _ _ 79 _:=D.lq.b0; obtain ⟨q01,q02,q03,q04⟩:=vb.a4; obtain ⟨q05,q06,q07,q08⟩:=vb.f4; have q09:=vb.lt; clear vb)); (try (have vb : Var _ _ 79 _:=D.lq.tl.b0; obtain ⟨q11,q12,q13,q14⟩:=vb.a4; obtain ⟨q15,q16,q17,q18⟩:=vb.f4; have q19:=vb.lt; clear vb)); (try (have vb : Var _ _ 79 _:=D.lq.tl.tl.b0; obtain ⟨q21,q22,q23,q24⟩:=vb.a4; obtain ⟨q25,q26,q27,q28⟩:=vb.f4; have q29:=vb.lt; clear vb)); (try (have vb : Var _ _ 79 _:=D.lq.tl.tl.tl.b0; obtain ⟨q31,q32,q33,q34⟩:=vb.a4; obtain ⟨q35,q36,q37,q38⟩:=vb.f4; have q39:=vb.lt; clear vb))) | (have hm1:=True.intro))))
   all_goals
    go_wp2_with fail
    go_meet
    first
    | ((with_reducible refine made2s_a D ?_ ?_ ?_ ?_) <;> (repeat (first | (with_reducible exact mS) | apply mT)))
    | ((with_reducible refine made2s_b D ?_ ?_ ?_ ?_) <;> (repeat (first | (with_reducible exact mS) | apply mT)))
    | ((with_reducible apply made2s_c D) <;> (repeat (first | (with_reducible exact mS) | apply mT)))
    | ((with_reducible apply made2s_d D) <;> (repeat (first | (with_reducible exact mS) | apply mT)))
    | ((with_reducible apply made2s_e D) <;> (first | ((repeat (first | (with_reducible exact mS) | apply mT)); done) | omega))
  case rest =>
   obtain ⟨gp, gq, A5, c5, B5, d5, A6, c6, B6, d6, rfl, rfl, hp1, hp2, hpq, bw, vp, vq, ⟨i1, i2⟩, i3, i4⟩:=hcut
   have hr1:=LL.out.tl.tl.b0.lt
   have L:=((((((LL.out.step bw).n i4).n i3).n i2).n i1).b vq).b vp
   clear D D0 hmd LL vp vq i1 i2 i3 i4 bw hVw hz0 hK hc0 hc1 hc2 Q0 Q1 Q2 Q3 Q4 Q5 Q6 Q7 G3 G4
   generalize wc = wd2 at *
   (try go_wp2_with fail)
   obtain ⟨V3, hV, L9⟩:=L.name
   rw [hV]
   clear hV L
   have L:=L9
   clear L9
   have R0:=Hd9 (fun Z (hZ : Below V3.heap.size V3 Z) => L.tl.tl.tl.tl.b0.mono hZ)
   have Q0:=Hd9 (fun Z (hZ : Below V3.heap.size V3 Z) => (L.b0.mono hZ).c40)
   have Q1:=Hd9 (fun Z (hZ : Below V3.heap.size V3 Z) => (L.b0.mono hZ).c41)
   have Q2:=Hd9 (fun Z (hZ : Below V3.heap.size V3 Z) => (L.b0.mono hZ).c42)
   have Q3:=Hd9 (fun Z (hZ : Below V3.heap.size V3 Z) => (L.b0.mono hZ).c43)
   have Q4:=Hd9 (fun Z (hZ : Below V3.heap.size V3 Z) => (L.tl.b0.mono hZ).c40)
   have Q5:=Hd9 (fun Z (hZ : Below V3.heap.size V3 Z) => (L.tl.b0.mono hZ).c41)
   have Q6:=Hd9 (fun Z (hZ : Below V3.heap.size V3 Z) => (L.tl.b0.mono hZ).c42)
   have Q7:=Hd9 (fun Z (hZ : Below V3.heap.size V3 Z) => (L.tl.b0.mono hZ).c43)
   have hb0:=L.b0.lt
   have hb1:=L.tl.b0.lt
   have D0 : Dq V3 V3 [(.slice A5 (zl p1) c5, (p1 : Int).natAbs), (.slice B5 (zl p2) d5, (p2 : Int).natAbs), (.slice A6 (zl p3) c6, (p3 : Int).natAbs), (.slice B6 (zl p4) d6, (p4 : Int).natAbs)] [] [] []:=⟨(((((Lq.mk0 V3).n (L.getN (v:=.slice B6 (zl p4) d6) (x:=(p4 : Int).natAbs) (by simp))).n (L.getN (v:=.slice A6 (zl p3) c6) (x:=(p3 : Int).natAbs) (by simp))).n (L.getN (v:=.slice B5 (zl p2) d5) (x:=(p2 : Int).natAbs) (by simp))).n (L.getN (v:=.slice A5 (zl p1) c5) (x:=(p1 : Int).natAbs) (by simp))), List.nodup_nil, fun p hp => by cases hp⟩
   have D:=D0.drew
   have hVw:=L.below.size
   have LL:=Hd9 L
   clear L
   obtain ⟨K, hK⟩:=nm9 (V3.heap.size)
   have hz0 : K ≤ V3.heap.size:=by omega
   have hmd : V3.drew.heap.size = K:=hK
   have hc0 : gp < K:=by omega
   have hc1 : gq < K:=by omega
   go_region_held3 (fun w' => w'.cell? ⟨gp, 0, none⟩ = some (.bool (ng p1)) ∧ w'.cell? ⟨gp, 1, none⟩ = some (.slice A5 (zl p1) c5) ∧ w'.cell? ⟨gp, 2, none⟩ = some (.bool (ng p2)) ∧ w'.cell? ⟨gp, 3, none⟩ = some (.slice B5 (zl p2) d5) ∧ w'.cell? ⟨gq, 0, none⟩ = some (.bool (ng p3)) ∧ w'.cell? ⟨gq, 1, none⟩ = some (.slice A6 (zl p3) c6) ∧ w'.cell? ⟨gq, 2, none⟩ = some (.bool (ng p4)) ∧ w'.cell? ⟨gq, 3, none⟩ = some (.slice B6 (zl p4) d6)) (first | (((try dsimp only); refine keep8 Q0.out Q1.out Q2.out Q3.out Q4.out Q5.out Q6.out Q7.out ?_; (repeat (first | (with_reducible exact D.lq.below) | (with_reducible exact D0.lq.below) | (with_reducible refine Below.drew ?_) | (with_reducible refine bl_alloc _ ?_) | (with_reducible refine bl_set _ ?_ (by omega))))); done) | ((try dsimp only); refine ⟨?_, ?_, ?_, ?_, ?_, ?_, ?_, ?_⟩ <;> (repeat (refine c_set15 ?_ (by omega))) <;> (first | (with_reducible exact Q0.out _ D.lq.below) | (with_reducible exact Q1.out _ D.lq.below) | (with_reducible exact Q2.out _ D.lq.below) | (with_reducible exact Q3.out _ D.lq.below) | (with_reducible exact Q4.out _ D.lq.below) | (with_reducible exact Q5.out _ D.lq.below) | (with_reducible exact Q6.out _ D.lq.below) | (with_reducible exact Q7.out _ D.lq.below)))) (first | (go_at_call 47; ((with_reducible apply calls_sync2); (repeat (first | (with_reducible exact D) | (with_reducible exact D0) | (with_reducible apply Dq.drew) | (with_reducible apply Dq.boxR))); intro D2; replace D:=D2; clear D2; (try simp only [alloc_sz15, drew_sz15, hK] at D)); (with_reducible refine (G5.out _).mono ?_); rintro e9 wh ⟨vh, rfl, iz, be⟩; obtain ⟨A7, c7, rfl, in9⟩:=iz.form; replace D:=(D.step be).n in9; clear iz in9 be) | (go_at_call 140; ((with_reducible apply calls_sync2); (repeat (first | (with_reducible exact D) | (with_reducible exact D0) | (with_reducible apply Dq.drew) | (with_reducible apply Dq.boxR))); intro D2; replace D:=D2; clear D2; (try simp only [alloc_sz15, drew_sz15, hK] at D)); (with_reducible refine (G6.out _ _ _ ?_ ?_).mono ?_); (· ((with_reducible refine rowZ_4 (D.lq.bs (_, 24, #[.bool (ng p1), .slice A5 (zl p1) c5, .bool (ng p2), .slice B5 (zl p2) d5, .bool (ng p3), .slice A6 (zl p3) c6, .bool (ng p4), .slice B6 (zl p4) d6]) ?_) (D.getN ?_) (D.getN ?_) (D.getN ?_) (D.getN ?_)) <;> (repeat (first | (with_reducible exact mS) | apply mT)); done)); (· ((with_reducible refine isZ_s (D.getN ?_)); (repeat (first | (with_reducible exact mS) | apply mT)); done)); rintro e9 wh ⟨vh, rfl, iq, be⟩; obtain ⟨A8, c8, B8, d8, rfl, ia, ib⟩:=iq.form; replace D:=((D.step be).n ib).n ia; clear iq ia ib be; have vb:=R0.out _ D.lq.below; obtain ⟨q0,q1,q2,q3⟩:=vb.a4; obtain ⟨r0,r1,r2,r3⟩:=vb.f4; clear vb))
   all_goals
    go_wp2_with fail
    have ia:=D.getN (v:=.slice A8 (zl R) c8) (x:=R.natAbs) (by simp)
    have ib:=D.getN (v:=.slice B8 (zl S) d8) (x:=S.natAbs) (by simp)
    have L9:=(((LL.out.step D.lq.below).n ib).n ia).subx (ns':=[(.slice A8 (zl R) c8, R.natAbs), (.slice B8 (zl S) d8, S.natAbs)]) (bs':=[(w.heap.size + 1 + 1, 79, #[.bool false, .slice none 0 0, .bool false, .slice none 0 0])]) (by simp) (by simp)
    clear D D0 LL
    have L:=L9
    clear L9
    have LP:=L.putS (by omega) (by first | (simp; done) | (simp; omega)) (ng R) A8 (zl R) c8 (ng S) B8 (zl S) d8
    obtain ⟨k0,k1,k2,k3⟩:=LP.b0.a4
    unfold put4 at k0 k1 k2 k3
    exact bodyPost_ret (v:=.agg #[.bool (ng R), .slice A8 (zl R) c8, .bool (ng S), .slice B8 (zl S) d8]) (by simp [results, Tryz.results65, go_sem, k0, k1, k2, k3]) rfl ⟨_, rfl, isS_n (LP.getN (by simp)) (LP.getN (by simp)), LP.below⟩

theorem AbP.fl {x n : Int} {j : Nat} (h : AbP x j) (hn : 0 < n) : AbP (x / n) j:=Nat.le_trans (abs_floor x hn) h
theorem AbP.cd {x n : Int} {j : Nat} (h : AbP x j) (hn : 0 < n) : AbP (cdv x n) j:=(h.neg.fl hn).neg
theorem AbP.shr {x : Int} {j v : Nat} (h : AbP x (j + v)) : AbP (x / 2 ^ v) j:=by
 unfold AbP at *
 have hp:=pow2_pos v
 rw [Nat.pow_add] at h
 have e : (((2 : Nat) ^ v : Nat) : Int) = 2 ^ v:=by simp
 obtain ⟨Q, hQ⟩ : ∃ Q : Nat, 2 ^ j = Q:=⟨_, rfl⟩
 obtain ⟨P, hP⟩ : ∃ P : Nat, 2 ^ v = P:=⟨_, rfl⟩
 rw [hQ, hP] at h
 rw [hQ]
 rw [hP] at e
 rw [← e] at hp ⊢
 have h2 : ((x.natAbs : Nat) : Int) ≤ (Q : Int) * (P : Int):=by exact_mod_cast h
 have h3 : x / (P : Int) ≤ (Q : Int):=Int.ediv_le_of_le_mul hp (by omega)
 have h4 : -(Q : Int) ≤ x / (P : Int):=(Int.le_ediv_iff_mul_le hp).2 (by rw [Int.neg_mul]; omega)
 omega
theorem AbP.cshr {x : Int} {j v : Nat} (h : AbP x (j + v)) : AbP (cdv x (2 ^ v)) j:=by
 have:=(AbP.shr (x := -x) h.neg).neg
 exact this
structure ExS (v f t : Nat) (y : Rat) (a b p q : Int) : Prop where
 tf : t + f = v
 tm : SpC a b v (tm t y)
 sm : SpC p q v (esm (t + 1) y)
 aa : AbP a f
 bb : AbP b f
 pp : p.natAbs + 2 ^ f ≤ 2 ^ (v + 1)
 qq : q.natAbs + 2 ^ f ≤ 2 ^ (v + 1)
theorem ExS.first (v : Nat) (y : Rat) : ExS v v 0 y (2 ^ v) (2 ^ v) (2 ^ v) (2 ^ v):=by
 have h:=SpC.of 1 v
 rw [Int.one_mul, show ((1 : Int) : Rat) = 1 from rfl] at h
 have e : ((2 : Int) ^ v).natAbs = 2 ^ v:=by rw [Int.natAbs_pow]; rfl
 have h2 : ((2 : Int) ^ v).natAbs + 2 ^ v ≤ 2 ^ (v + 1):=by rw [e, Nat.pow_succ]; omega
 refine ⟨by omega, h, ?_, Nat.le_of_eq e, Nat.le_of_eq e, h2, h2⟩
 rwa [show esm (0 + 1) y = 1 from by show (0 : Rat) + 1 = 1; grind]
def sqbits (v i : Nat) : Nat:=v + (3 * 2 ^ i - 1)
structure ExD (v i : Nat) (y : Rat) (a b : Int) : Prop where
 rs : RSp a b v ((((2 : Nat) ^ i : Nat) : Rat) * y)
 aa : AbP a (sqbits v i)
 bb : AbP b (sqbits v i)
theorem ExD.first {v : Nat} {y : Rat} {a b : Int} (h : RSp a b v y) (ha : AbP a (sqbits v 0)) (hb : AbP b (sqbits v 0)) : ExD v 0 y a b:=
 ⟨by rwa [show (((2 : Nat) ^ 0 : Nat) : Rat) * y = y from by rw [Nat.pow_zero]; exact Rat.one_mul y], ha, hb⟩
theorem s13mul_any (a b m n : Int) (v : Nat) (vx vy : Value) (w : World) (hx : IsS w vx a b) (hy : IsS w vy m n) (la : zl a ≤ 4000) (lb : zl b ≤ 4000) (lm : zl m ≤ 4000) (ln : zl n ≤ 4000) (hv : v ≤ 100000) :
  Calls Tryz.prog 69 #[vx, vy, .int .i64 (v : Int)] w (RetSp w (mn4 (a * m) (a * n) (b * m) (b * n) / 2 ^ v) (cdv (mx4 (a * m) (a * n) (b * m) (b * n)) (2 ^ v))):=by
 obtain ⟨A, c, B, d, rfl, hn1, hn2⟩:=hx.form
 obtain ⟨E, k, G, i, rfl, hn3, hn4⟩:=hy.form
 have L0:=((((Lq.mk0 w).n hn4).n hn3).n hn2).n hn1
 have pv:=pow2_pos v
 have z1:=zl_mul a m
 have z2:=zl_mul a n
 have z3:=zl_mul b m
 have z4:=zl_mul b n
 have g1:=fun x y W h k => rzmul_any a m x y W h k (by omega) (by omega)
 have g2:=fun x y W h k => rzmul_any a n x y W h k (by omega) (by omega)
 have g3:=fun x y W h k => rzmul_any b m x y W h k (by omega) (by omega)
 have g4:=fun x y W h k => rzmul_any b n x y W h k (by omega) (by omega)
 obtain ⟨p1, hp1⟩:=nm9 (a * m)
 rw [hp1] at g1 z1 ⊢
 obtain ⟨p2, hp2⟩:=nm9 (a * n)
 rw [hp2] at g2 z2 ⊢
 obtain ⟨p3, hp3⟩:=nm9 (b * m)
 rw [hp3] at g3 z3 ⊢
 obtain ⟨p4, hp4⟩:=nm9 (b * n)
 rw [hp4] at g4 z4 ⊢
 obtain ⟨o, ho⟩ : ∃ o : Int, 1 = o:=⟨_, rfl⟩
 have zo : zl o ≤ 1:=len_le1 (x:=o.natAbs) (by omega)
 have g5:=fun W => rzof_any 1 W (by omega) (by omega)
 have hlo:=lst_4 p1 p2 p3 p4
 have hhi:=mst_4 p1 p2 p3 p4
 have zX : zl (mn4 p1 p2 p3 p4) ≤ 8001:=by
  have:=hlo.1
  simp only [List.mem_cons, List.not_mem_nil, or_false] at this
  rcases this with h | h | h | h <;> rw [h] <;> omega
 have zY : zl (mx4 p1 p2 p3 p4) ≤ 8001:=by
  have:=hhi.1
  simp only [List.mem_cons, List.not_mem_nil, or_false] at this
  rcases this with h | h | h | h <;> rw [h] <;> omega
 have g6:=fun v u W (h : RowZ W v [p1, p2, p3, p4]) k => s13hull_any [p1, p2, p3, p4] (mn4 p1 p2 p3 p4) (mx4 p1 p2 p3 p4) o v u W h k (by simp) (by simp) (fun p hp => by
  simp only [List.mem_cons, List.not_mem_nil, or_false] at hp
  rcases hp with rfl | rfl | rfl | rfl <;> omega) hlo hhi (by omega) (by omega)
 obtain ⟨X, hX⟩:=nm9 (mn4 p1 p2 p3 p4)
 obtain ⟨Y, hY⟩:=nm9 (mx4 p1 p2 p3 p4)
 rw [hX] at g6 zX ⊢
 rw [hY] at g6 zY ⊢
 have e1 : X / o = X:=by rw [← ho]; exact Int.ediv_one X
 have e2 : cdv Y o = Y:=by rw [← ho]; exact cdv_one Y
 rw [e1, e2] at g6
 rw [show ((1 : Int)) = o from ho] at g5
 unfold cdv
 have y1:=zl_neg Y
 have y2:=zl_floor (-Y) pv
 have y3:=zl_floor X pv
 have h1:=fun x W h => rzshr_any X x W h (by omega) v (by omega)
 have h2:=fun x W h => rzneg_any Y x W h (by omega)
 have h3:=fun x W h => rzshr_any (-Y) x W h (by omega) v (by omega)
 have h4:=fun x W h => rzneg_any (-Y / 2 ^ v) x W h (by omega)
 obtain ⟨x, hx⟩:=nm9 (X / 2 ^ v)
 rw [hx] at h1 ⊢
 obtain ⟨q, hq⟩:=nm9 (-Y)
 rw [hq] at h2 h3 h4 ⊢
 obtain ⟨r, hr⟩:=nm9 (q / 2 ^ v)
 rw [hr] at h3 h4 ⊢
 obtain ⟨y, hy⟩:=nm9 (-r)
 rw [hy] at h4 ⊢
 have G1:=Hd9 g1
 clear g1
 have G2:=Hd9 g2
 clear g2
 have G3:=Hd9 g3
 clear g3
 have G4:=Hd9 g4
 clear g4
 have G5:=Hd9 g5
 clear g5
 have G6:=Hd9 g6
 clear g6
 have H1:=Hd9 h1
 clear h1
 have H2:=Hd9 h2
 clear h2
 have H3:=Hd9 h3
 clear h3
 have H4:=Hd9 h4
 clear h4
 clear hlo hhi zX zY e1 e2 y1 y2 y3 hX hY hx hy hq hr hn1 hn2 hn3 hn4 la lb lm ln zo pv z1 z2 z3 z4 hp1 hp2 hp3 hp4
 go_enter Tryz.func69, Tryz.ntmps69
 go_wp2_with fail
 have L:=(((L0.varS (w.heap.size) (by simp) (ng a) A (zl a) c (ng b) B (zl b) d).varS (w.heap.size + 1) (by simp) (ng m) E (zl m) k (ng n) G (zl n) i).varS (w.heap.size + 2) (by simp) false none 0 0 false none 0 0)
 (try go_wp2_with fail)
 obtain ⟨V, hV⟩:=nm9 (((w.alloc (.cells #[.bool (ng a), .slice A (zl a) c, .bool (ng b), .slice B (zl b) d] 79)).alloc (.cells #[.bool (ng m), .slice E (zl m) k, .bool (ng n), .slice G (zl n) i] 79)).alloc (.cells #[.bool false, .slice none 0 0, .bool false, .slice none 0 0] 79))
 rw [hV] at L ⊢
 clear hV
 have Q0:=Hd9 (fun Z (hZ : Below V.heap.size V Z) => (L.tl.tl.b0.mono hZ).c40)
 have Q1:=Hd9 (fun Z (hZ : Below V.heap.size V Z) => (L.tl.tl.b0.mono hZ).c41)
 have Q2:=Hd9 (fun Z (hZ : Below V.heap.size V Z) => (L.tl.tl.b0.mono hZ).c42)
 have Q3:=Hd9 (fun Z (hZ : Below V.heap.size V Z) => (L.tl.tl.b0.mono hZ).c43)
 have Q4:=Hd9 (fun Z (hZ : Below V.heap.size V Z) => (L.tl.b0.mono hZ).c40)
 have Q5:=Hd9 (fun Z (hZ : Below V.heap.size V Z) => (L.tl.b0.mono hZ).c41)
 have Q6:=Hd9 (fun Z (hZ : Below V.heap.size V Z) => (L.tl.b0.mono hZ).c42)
 have Q7:=Hd9 (fun Z (hZ : Below V.heap.size V Z) => (L.tl.b0.mono hZ).c43)
 have hb1:=L.tl.tl.b0.lt
 have hb2:=L.tl.b0.lt
 have hb3:=L.b0.lt
 have D0 : Dq V V [(.slice A (zl a) c, a.natAbs), (.slice B (zl b) d, b.natAbs), (.slice E (zl m) k, m.natAbs), (.slice G (zl n) i, n.natAbs)] [] [] []:=⟨((((Lq.mk0 V).n (L.getN (v:=.slice G (zl n) i) (x:=(n).natAbs) (by simp))).n (L.getN (v:=.slice E (zl m) k) (x:=(m).natAbs) (by simp))).n (L.getN (v:=.slice B (zl b) d) (x:=(b).natAbs) (by simp))).n (L.getN (v:=.slice A (zl a) c) (x:=(a).natAbs) (by simp)), List.nodup_nil, fun p hp => by cases hp⟩
 have D:=D0.drew
 have LL:=Hd9 L
 clear L L0
 obtain ⟨K, hK⟩:=nm9 (V.heap.size)
 have hz0 : K ≤ V.heap.size:=by omega
 have hc1 : w.heap.size < K:=by omega
 have hc2 : w.heap.size + 1 < K:=by omega
 have hmd : V.drew.heap.size = K:=hK
 go_cut [7] from 8 to 30 (fun s7 wx => Made1S V X Y s7 wx)
 case first =>
  go_region_held3 (fun w' => w'.cell? ⟨w.heap.size, 0, none⟩ = some (.bool (ng a)) ∧ w'.cell? ⟨w.heap.size, 1, none⟩ = some (.slice A (zl a) c) ∧ w'.cell? ⟨w.heap.size, 2, none⟩ = some (.bool (ng b)) ∧ w'.cell? ⟨w.heap.size, 3, none⟩ = some (.slice B (zl b) d) ∧ w'.cell? ⟨w.heap.size + 1, 0, none⟩ = some (.bool (ng m)) ∧ w'.cell? ⟨w.heap.size + 1, 1, none⟩ = some (.slice E (zl m) k) ∧ w'.cell? ⟨w.heap.size + 1, 2, none⟩ = some (.bool (ng n)) ∧ w'.cell? ⟨w.heap.size + 1, 3, none⟩ = some (.slice G (zl n) i)) (((try dsimp only); refine ⟨?_, ?_, ?_, ?_, ?_, ?_, ?_, ?_⟩ <;> (repeat (first | (with_reducible exact Q0.out _ D.lq.below) | (with_reducible exact Q0.out _ D0.lq.below) | (with_reducible exact Q1.out _ D.lq.below) | (with_reducible exact Q1.out _ D0.lq.below) | (with_reducible exact Q2.out _ D.lq.below) | (with_reducible exact Q2.out _ D0.lq.below) | (with_reducible exact Q3.out _ D.lq.below) | (with_reducible exact Q3.out _ D0.lq.below) | (with_reducible exact Q4.out _ D.lq.below) | (with_reducible exact Q4.out _ D0.lq.below) | (with_reducible exact Q5.out _ D.lq.below) | (with_reducible exact Q5.out _ D0.lq.below) | (with_reducible exact Q6.out _ D.lq.below) | (with_reducible exact Q6.out _ D0.lq.below) | (with_reducible exact Q7.out _ D.lq.below) | (with_reducible exact Q7.out _ D0.lq.below) | (with_reducible refine c_alloc _ ?_) | (with_reducible refine c_drew ?_) | (with_reducible refine c_set ?_ (by assumption) ?_) | omega)))) (first | (go_at_call 96; (with_reducible refine (G1.out _ _ _ ?_ ?_).mono ?_); (· (first | (with_reducible refine isZ_s (D.getN ?_); (repeat (first | (with_reducible exact mS) | apply mT)); done) | (with_reducible refine isZ_s ((D.boxS false none 0 0 false none 0 0).getN ?_); (repeat (first | (with_reducible exact mS) | apply mT)); done) | (with_reducible refine isZ_s ((D0.boxS false none 0 0 false none 0 0).drew.getN ?_); (repeat (first | (with_reducible exact mS) | apply mT)); done))); (· (first | (with_reducible refine isZ_s (D.getN ?_); (repeat (first | (with_reducible exact mS) | apply mT)); done) | (with_reducible refine isZ_s ((D.boxS false none 0 0 false none 0 0).getN ?_); (repeat (first | (with_reducible exact mS) | apply mT)); done) | (with_reducible refine isZ_s ((D0.boxS false none 0 0 false none 0 0).drew.getN ?_); (repeat (first | (with_reducible exact mS) | apply mT)); done))); rintro e9 wh ⟨vh, rfl, iz, be⟩; obtain ⟨A5, c5, rfl, in9⟩:=iz.form; (first | (replace D:=D.step be) | (replace D:=(D.boxMS hmd false none 0 0 false none 0 0).step be) | (replace D:=(D.boxS false none 0 0 false none 0 0).step be)); replace D:=D.n in9; clear iz in9; have hz:=be.size; (try simp at hz); (try (obtain ⟨q00,q01,q02,q03⟩:=D.lq.b0.a4; obtain ⟨z00,z01,z02,z03⟩:=D.lq.b0.f4)); (try (obtain ⟨q10,q11,q12,q13⟩:=D.lq.tl.b0.a4; obtain ⟨z10,z11,z12,z13⟩:=D.lq.tl.b0.f4)); (try obtain ⟨na, nb, nc, nd, nl⟩:=D.n0); (try obtain ⟨ne, nf, ng', nh, nm⟩:=D.n1); (try obtain ⟨ni, nj⟩:=D.n01)) | (go_at_call 96; (with_reducible refine (G2.out _ _ _ ?_ ?_).mono ?_); (· (first | (with_reducible refine isZ_s (D.getN ?_); (repeat (first | (with_reducible exact mS) | apply mT)); done) | (with_reducible refine isZ_s ((D.boxS false none 0 0 false none 0 0).getN ?_); (repeat (first | (with_reducible exact mS) | apply mT)); done) | (with_reducible refine isZ_s ((D0.boxS false none 0 0 false none 0 0).drew.getN ?_); (repeat (first | (with_reducible exact mS) | apply mT)); done))); (· (first | (with_reducible refine isZ_s (D.getN ?_); (repeat (first | (with_reducible exact mS) | apply mT)); done) | (with_reducible refine isZ_s ((D.boxS false none 0 0 false none 0 0).getN ?_); (repeat (first | (with_reducible exact mS) | apply mT)); done) | (with_reducible refine isZ_s ((D0.boxS false none 0 0 false none 0 0).drew.getN ?_); (repeat (first | (with_reducible exact mS) | apply mT)); done))); rintro e9 wh ⟨vh, rfl, iz, be⟩; obtain ⟨A6, c6, rfl, in9⟩:=iz.form; (first | (replace D:=D.step be) | (replace D:=(D.boxMS hmd false none 0 0 false none 0 0).step be) | (replace D:=(D.boxS false none 0 0 false none 0 0).step be)); replace D:=D.n in9; clear iz in9; have hz:=be.size; (try simp at hz); (try (obtain ⟨q00,q01,q02,q03⟩:=D.lq.b0.a4; obtain ⟨z00,z01,z02,z03⟩:=D.lq.b0.f4)); (try (obtain ⟨q10,q11,q12,q13⟩:=D.lq.tl.b0.a4; obtain ⟨z10,z11,z12,z13⟩:=D.lq.tl.b0.f4)); (try obtain ⟨na, nb, nc, nd, nl⟩:=D.n0); (try obtain ⟨ne, nf, ng', nh, nm⟩:=D.n1); (try obtain ⟨ni, nj⟩:=D.n01)) | (go_at_call 96; (with_reducible refine (G3.out _ _ _ ?_ ?_).mono ?_); (· (first | (with_reducible refine isZ_s (D.getN ?_); (repeat (first | (with_reducible exact mS) | apply mT)); done) | (with_reducible refine isZ_s ((D.boxS false none 0 0 false none 0 0).getN ?_); (repeat (first | (with_reducible exact mS) | apply mT)); done) | (with_reducible refine isZ_s ((D0.boxS false none 0 0 false none 0 0).drew.getN ?_); (repeat (first | (with_reducible exact mS) | apply mT)); done))); (· (first | (with_reducible refine isZ_s (D.getN ?_); (repeat (first | (with_reducible exact mS) | apply mT)); done) | (with_reducible refine isZ_s ((D.boxS false none 0 0 false none 0 0).getN ?_); (repeat (first | (with_reducible exact mS) | apply mT)); done) | (with_reducible refine isZ_s ((D0.boxS false none 0 0 false none 0 0).drew.getN ?_); (repeat (first | (with_reducible exact mS) | apply mT)); done))); rintro e9 wh ⟨vh, rfl, iz, be⟩; obtain ⟨A7, c7, rfl, in9⟩:=iz.form; (first | (replace D:=D.step be) | (replace D:=(D.boxMS hmd false none 0 0 false none 0 0).step be) | (replace D:=(D.boxS false none 0 0 false none 0 0).step be)); replace D:=D.n in9; clear iz in9; have hz:=be.size; (try simp at hz); (try (obtain ⟨q00,q01,q02,q03⟩:=D.lq.b0.a4; obtain ⟨z00,z01,z02,z03⟩:=D.lq.b0.f4)); (try (obtain ⟨q10,q11,q12,q13⟩:=D.lq.tl.b0.a4; obtain ⟨z10,z11,z12,z13⟩:=D.lq.tl.b0.f4)); (try obtain ⟨na, nb, nc, nd, nl⟩:=D.n0); (try obtain ⟨ne, nf, ng', nh, nm⟩:=D.n1); (try obtain ⟨ni, nj⟩:=D.n01)) | (go_at_call 96; (with_reducible refine (G4.out _ _ _ ?_ ?_).mono ?_); (· (first | (with_reducible refine isZ_s (D.getN ?_); (repeat (first | (with_reducible exact mS) | apply mT)); done) | (with_reducible refine isZ_s ((D.boxS false none 0 0 false none 0 0).getN ?_); (repeat (first | (with_reducible exact mS) | apply mT)); done) | (with_reducible refine isZ_s ((D0.boxS false none 0 0 false none 0 0).drew.getN ?_); (repeat (first | (with_reducible exact mS) | apply mT)); done))); (· (first | (with_reducible refine isZ_s (D.getN ?_); (repeat (first | (with_reducible exact mS) | apply mT)); done) | (with_reducible refine isZ_s ((D.boxS false none 0 0 false none 0 0).getN ?_); (repeat (first | (with_reducible exact mS) | apply mT)); done) | (with_reducible refine isZ_s ((D0.boxS false none 0 0 false none 0 0).drew.getN ?_); (repeat (first | (with_reducible exact mS) | apply mT)); done))); rintro e9 wh ⟨vh, rfl, iz, be⟩; obtain ⟨A8, c8, rfl, in9⟩:=iz.form; (first | (replace D:=D.step be) | (replace D:=(D.boxMS hmd false none 0 0 false none 0 0).step be) | (replace D:=(D.boxS false none 0 0 false none 0 0).step be)); replace D:=D.n in9; clear iz in9; have hz:=be.size; (try simp at hz); (try (obtain ⟨q00,q01,q02,q03⟩:=D.lq.b0.a4; obtain ⟨z00,z01,z02,z03⟩:=D.lq.b0.f4)); (try (obtain ⟨q10,q11,q12,q13⟩:=D.lq.tl.b0.a4; obtain ⟨z10,z11,z12,z13⟩:=D.lq.tl.b0.f4)); (try obtain ⟨na, nb, nc, nd, nl⟩:=D.n0); (try obtain ⟨ne, nf, ng', nh, nm⟩:=D.n1); (try obtain ⟨ni, nj⟩:=D.n01)) | (go_at_call 47; (with_reducible refine (G5.out _).mono ?_); rintro e9 wh ⟨vh, rfl, iz, be⟩; obtain ⟨A9, c9, rfl, in9⟩:=iz.form; (first | (replace D:=D.step be) | (replace D:=(D.boxR (ng p1) A5 (zl p1) c5 (ng p2) A6 (zl p2) c6 (ng p3) A7 (zl p3) c7 (ng p4) A8 (zl p4) c8).step be) | (replace D:=(D.boxS false none 0 0 false none 0 0).step be) | (replace D:=(D.boxSR false none 0 0 false none 0 0 (ng p1) A5 (zl p1) c5 (ng p2) A6 (zl p2) c6 (ng p3) A7 (zl p3) c7 (ng p4) A8 (zl p4) c8).step be) | (replace D:=(D.boxRS false none 0 0 false none 0 0 (ng p1) A5 (zl p1) c5 (ng p2) A6 (zl p2) c6 (ng p3) A7 (zl p3) c7 (ng p4) A8 (zl p4) c8).step be)); replace D:=D.n in9; clear iz in9; have hz:=be.size; (try simp at hz); (try (obtain ⟨q00,q01,q02,q03⟩:=D.lq.b0.a4; obtain ⟨z00,z01,z02,z03⟩:=D.lq.b0.f4)); (try (obtain ⟨q10,q11,q12,q13⟩:=D.lq.tl.b0.a4; obtain ⟨z10,z11,z12,z13⟩:=D.lq.tl.b0.f4)); (try obtain ⟨na, nb, nc, nd, nl⟩:=D.n0); (try obtain ⟨ne, nf, ng', nh, nm⟩:=D.n1); (try obtain ⟨ni, nj⟩:=D.n01)) | (go_at_call 140; (with_reducible refine (G6.out _ _ _ ?_ ?_).mono ?_); (· (first | (with_reducible refine rowZ_4 D.lq.b0 (D.getN ?_) (D.getN ?_) (D.getN ?_) (D.getN ?_) <;> (repeat (first | (with_reducible exact mS) | apply mT)); done) | (with_reducible refine rowZ_4 D.lq.tl.b0 (D.getN ?_) (D.getN ?_) (D.getN ?_) (D.getN ?_) <;> (repeat (first | (with_reducible exact mS) | apply mT)); done) | (with_reducible refine rowZ_4 (D.boxR (ng p1) A5 (zl p1) c5 (ng p2) A6 (zl p2) c6 (ng p3) A7 (zl p3) c7 (ng p4) A8 (zl p4) c8).lq.b0 ((D.boxR (ng p1) A5 (zl p1) c5 (ng p2) A6 (zl p2) c6 (ng p3) A7 (zl p3) c7 (ng p4) A8 (zl p4) c8).getN ?_) ((D.boxR (ng p1) A5 (zl p1) c5 (ng p2) A6 (zl p2) c6 (ng p3) A7 (zl p3) c7 (ng p4) A8 (zl p4) c8).getN ?_) ((D.boxR (ng p1) A5 (zl p1) c5 (ng p2) A6 (zl p2) c6 (ng p3) A7 (zl p3) c7 (ng p4) A8 (zl p4) c8).getN ?_) ((D.boxR (ng p1) A5 (zl p1) c5 (ng p2) A6 (zl p2) c6 (ng p3) A7 (zl p3) c7 (ng p4) A8 (zl p4) c8).getN ?_) <;> (repeat (first | (with_reducible exact mS) | apply mT)); done) | (with_reducible refine rowZ_4 (D.boxR (ng p1) A5 (zl p1) c5 (ng p2) A6 (zl p2) c6 (ng p3) A7 (zl p3) c7 (ng p4) A8 (zl p4) c8).lq.tl.b0 ((D.boxR (ng p1) A5 (zl p1) c5 (ng p2) A6 (zl p2) c6 (ng p3) A7 (zl p3) c7 (ng p4) A8 (zl p4) c8).getN ?_) ((D.boxR (ng p1) A5 (zl p1) c5 (ng p2) A6 (zl p2) c6 (ng p3) A7 (zl p3) c7 (ng p4) A8 (zl p4) c8).getN ?_) ((D.boxR (ng p1) A5 (zl p1) c5 (ng p2) A6 (zl p2) c6 (ng p3) A7 (zl p3) c7 (ng p4) A8 (zl p4) c8).getN ?_) ((D.boxR (ng p1) A5 (zl p1) c5 (ng p2) A6 (zl p2) c6 (ng p3) A7 (zl p3) c7 (ng p4) A8 (zl p4) c8).getN ?_) <;> (repeat (first | (with_reducible exact mS) | apply mT)); done) | (with_reducible refine rowZ_4 (D.boxS false none 0 0 false none 0 0).lq.b0 ((D.boxS false none 0 0 false none 0 0).getN ?_) ((D.boxS false none 0 0 false none 0 0).getN ?_) ((D.boxS false none 0 0 false none 0 0).getN ?_) ((D.boxS false none 0 0 false none 0 0).getN ?_) <;> (repeat (first | (with_reducible exact mS) | apply mT)); done) | (with_reducible refine rowZ_4 (D.boxS false none 0 0 false none 0 0).lq.tl.b0 ((D.boxS false none 0 0 false none 0 0).getN ?_) ((D.boxS false none 0 0 false none 0 0).getN ?_) ((D.boxS false none 0 0 false none 0 0).getN ?_) ((D.boxS false none 0 0 false none 0 0).getN ?_) <;> (repeat (first | (with_reducible exact mS) | apply mT)); done) | (with_reducible refine rowZ_4 (D.boxSR false none 0 0 false none 0 0 (ng p1) A5 (zl p1) c5 (ng p2) A6 (zl p2) c6 (ng p3) A7 (zl p3) c7 (ng p4) A8 (zl p4) c8).lq.b0 ((D.boxSR false none 0 0 false none 0 0 (ng p1) A5 (zl p1) c5 (ng p2) A6 (zl p2) c6 (ng p3) A7 (zl p3) c7 (ng p4) A8 (zl p4) c8).getN ?_) ((D.boxSR false none 0 0 false none 0 0 (ng p1) A5 (zl p1) c5 (ng p2) A6 (zl p2) c6 (ng p3) A7 (zl p3) c7 (ng p4) A8 (zl p4) c8).getN ?_) ((D.boxSR false none 0 0 false none 0 0 (ng p1) A5 (zl p1) c5 (ng p2) A6 (zl p2) c6 (ng p3) A7 (zl p3) c7 (ng p4) A8 (zl p4) c8).getN ?_) ((D.boxSR false none 0 0 false none 0 0 (ng p1) A5 (zl p1) c5 (ng p2) A6 (zl p2) c6 (ng p3) A7 (zl p3) c7 (ng p4) A8 (zl p4) c8).getN ?_) <;> (repeat (first | (with_reducible exact mS) | apply mT)); done) | (with_reducible refine rowZ_4 (D.boxSR false none 0 0 false none 0 0 (ng p1) A5 (zl p1) c5 (ng p2) A6 (zl p2) c6 (ng p3) A7 (zl p3) c7 (ng p4) A8 (zl p4) c8).lq.tl.b0 ((D.boxSR false none 0 0 false none 0 0 (ng p1) A5 (zl p1) c5 (ng p2) A6 (zl p2) c6 (ng p3) A7 (zl p3) c7 (ng p4) A8 (zl p4) c8).getN ?_) ((D.boxSR false none 0 0 false none 0 0 (ng p1) A5 (zl p1) c5 (ng p2) A6 (zl p2) c6 (ng p3) A7 (zl p3) c7 (ng p4) A8 (zl p4) c8).getN ?_) ((D.boxSR false none 0 0 false none 0 0 (ng p1) A5 (zl p1) c5 (ng p2) A6 (zl p2) c6 (ng p3) A7 (zl p3) c7 (ng p4) A8 (zl p4) c8).getN ?_) ((D.boxSR false none 0 0 false none 0 0 (ng p1) A5 (zl p1) c5 (ng p2) A6 (zl p2) c6 (ng p3) A7 (zl p3) c7 (ng p4) A8 (zl p4) c8).getN ?_) <;> (repeat (first | (with_reducible exact mS) | apply mT)); done) | (with_reducible refine rowZ_4 (D.boxRS false none 0 0 false none 0 0 (ng p1) A5 (zl p1) c5 (ng p2) A6 (zl p2) c6 (ng p3) A7 (zl p3) c7 (ng p4) A8 (zl p4) c8).lq.b0 ((D.boxRS false none 0 0 false none 0 0 (ng p1) A5 (zl p1) c5 (ng p2) A6 (zl p2) c6 (ng p3) A7 (zl p3) c7 (ng p4) A8 (zl p4) c8).getN ?_) ((D.boxRS false none 0 0 false none 0 0 (ng p1) A5 (zl p1) c5 (ng p2) A6 (zl p2) c6 (ng p3) A7 (zl p3) c7 (ng p4) A8 (zl p4) c8).getN ?_) ((D.boxRS false none 0 0 false none 0 0 (ng p1) A5 (zl p1) c5 (ng p2) A6 (zl p2) c6 (ng p3) A7 (zl p3) c7 (ng p4) A8 (zl p4) c8).getN ?_) ((D.boxRS false none 0 0 false none 0 0 (ng p1) A5 (zl p1) c5 (ng p2) A6 (zl p2) c6 (ng p3) A7 (zl p3) c7 (ng p4) A8 (zl p4) c8).getN ?_) <;> (repeat (first | (with_reducible exact mS) | apply mT)); done) | (with_reducible refine rowZ_4 (D.boxRS false none 0 0 false none 0 0 (ng p1) A5 (zl p1) c5 (ng p2) A6 (zl p2) c6 (ng p3) A7 (zl p3) c7 (ng p4) A8 (zl p4) c8).lq.tl.b0 ((D.boxRS false none 0 0 false none 0 0 (ng p1) A5 (zl p1) c5 (ng p2) A6 (zl p2) c6 (ng p3) A7 (zl p3) c7 (ng p4) A8 (zl p4) c8).getN ?_) ((D.boxRS false none 0 0 false none 0 0 (ng p1) A5 (zl p1) c5 (ng p2) A6 (zl p2) c6 (ng p3) A7 (zl p3) c7 (ng p4) A8 (zl p4) c8).getN ?_) ((D.boxRS false none 0 0 false none 0 0 (ng p1) A5 (zl p1) c5 (ng p2) A6 (zl p2) c6 (ng p3) A7 (zl p3) c7 (ng p4) A8 (zl p4) c8).getN ?_) ((D.boxRS false none 0 0 false none 0 0 (ng p1) A5 (zl p1) c5 (ng p2) A6 (zl p2) c6 (ng p3) A7 (zl p3) c7 (ng p4) A8 (zl p4) c8).getN ?_) <;> (repeat (first | (with_reducible exact mS) | apply mT)); done))); (· (first | (with_reducible refine isZ_s (D.getN ?_); (repeat (first | (with_reducible exact mS) | apply mT)); done) | (with_reducible refine isZ_s ((D.boxR (ng p1) A5 (zl p1) c5 (ng p2) A6 (zl p2) c6 (ng p3) A7 (zl p3) c7 (ng p4) A8 (zl p4) c8).getN ?_); (repeat (first | (with_reducible exact mS) | apply mT)); done) | (with_reducible refine isZ_s ((D.boxS false none 0 0 false none 0 0).getN ?_); (repeat (first | (with_reducible exact mS) | apply mT)); done) | (with_reducible refine isZ_s ((D.boxSR false none 0 0 false none 0 0 (ng p1) A5 (zl p1) c5 (ng p2) A6 (zl p2) c6 (ng p3) A7 (zl p3) c7 (ng p4) A8 (zl p4) c8).getN ?_); (repeat (first | (with_reducible exact mS) | apply mT)); done) | (with_reducible refine isZ_s ((D.boxRS false none 0 0 false none 0 0 (ng p1) A5 (zl p1) c5 (ng p2) A6 (zl p2) c6 (ng p3) A7 (zl p3) c7 (ng p4) A8 (zl p4) c8).getN ?_); (repeat (first | (with_reducible exact mS) | apply mT)); done))); rintro e9 wh ⟨vh, rfl, iq, be⟩; obtain ⟨A3, c3, B3, d3, rfl, ia, ib⟩:=iq.form; (first | (replace D:=D.step be) | (replace D:=(D.boxR (ng p1) A5 (zl p1) c5 (ng p2) A6 (zl p2) c6 (ng p3) A7 (zl p3) c7 (ng p4) A8 (zl p4) c8).step be) | (replace D:=(D.boxS false none 0 0 false none 0 0).step be) | (replace D:=(D.boxSR false none 0 0 false none 0 0 (ng p1) A5 (zl p1) c5 (ng p2) A6 (zl p2) c6 (ng p3) A7 (zl p3) c7 (ng p4) A8 (zl p4) c8).step be) | (replace D:=(D.boxRS false none 0 0 false none 0 0 (ng p1) A5 (zl p1) c5 (ng p2) A6 (zl p2) c6 (ng p3) A7 (zl p3) c7 (ng p4) A8 (zl p4) c8).step be)); replace D:=(D.n ib).n ia; clear iq ia ib; have hz:=be.size; (try simp at hz); (try (obtain ⟨q00,q01,q02,q03⟩:=D.lq.b0.a4; obtain ⟨z00,z01,z02,z03⟩:=D.lq.b0.f4)); (try (obtain ⟨q10,q11,q12,q13⟩:=D.lq.tl.b0.a4; obtain ⟨z10,z11,z12,z13⟩:=D.lq.tl.b0.f4)); (try obtain ⟨na, nb, nc, nd, nl⟩:=D.n0); (try obtain ⟨ne, nf, ng', nh, nm⟩:=D.n1); (try obtain ⟨ni, nj⟩:=D.n01)))
  all_goals
   go_wp2_with fail
   go_meet
   first
   | ((with_reducible refine made1s_a D ?_ ?_) <;> (repeat (first | (with_reducible exact mS) | apply mT)))
   | ((with_reducible refine made1s_b D ?_ ?_) <;> (repeat (first | (with_reducible exact mS) | apply mT)))
   | ((with_reducible refine made1s_b D.swap ?_ ?_) <;> (repeat (first | (with_reducible exact mS) | apply mT)))
 case rest =>
  obtain ⟨gy, A3, c3, B3, d3, rfl, hg, bw, hv1, iq1, iq2⟩:=hcut
  have L9:=(((LL.out.step bw).n iq2).n iq1).b hv1
  have n1 : w.heap.size + 2 ≠ gy:=by omega
  have L:=(L9.subx (ns':=[(.slice A3 (zl X) c3, X.natAbs), (.slice B3 (zl Y) d3, Y.natAbs)]) (bs':=[(w.heap.size + 2, 79, #[.bool false, .slice none 0 0, .bool false, .slice none 0 0]), (gy, 79, #[.bool (ng X), .slice A3 (zl X) c3, .bool (ng Y), .slice B3 (zl Y) d3])]) (by simp) (by simp)).drew
  clear D D0 hmd hz0 hK LL L9 hv1 iq1 iq2 bw hb1 hb2 hb3 hc1 hc2 Q0 Q1 Q2 Q3 Q4 Q5 Q6 Q7
  generalize wc = wd at *
  (try go_wp2_with fail)
  obtain ⟨c00,c01,c02,c03⟩:=L.b0.a4
  obtain ⟨f00,f01,f02,f03⟩:=L.b0.f4
  obtain ⟨c10,c11,c12,c13⟩:=L.tl.b0.a4
  go_region_held3 (fun w' => w'.cell? ⟨gy, 0, none⟩ = some (.bool (ng X)) ∧ w'.cell? ⟨gy, 1, none⟩ = some (.slice A3 (zl X) c3) ∧ w'.cell? ⟨gy, 2, none⟩ = some (.bool (ng Y)) ∧ w'.cell? ⟨gy, 3, none⟩ = some (.slice B3 (zl Y) d3)) (first | (with_reducible exact ⟨L.tl.b0.c40, L.tl.b0.c41, L.tl.b0.c42, L.tl.b0.c43⟩) | (have LP:=L.putS (by omega) (by first | (simp; done) | (simp; omega)) (ng x) A4 (zl x) c4 (ng y) A7 (zl y) c7; unfold put4 at LP; with_reducible exact ⟨LP.tl.b0.c40, LP.tl.b0.c41, LP.tl.b0.c42, LP.tl.b0.c43⟩) | exact ⟨L.tl.b0.c40, L.tl.b0.c41, L.tl.b0.c42, L.tl.b0.c43⟩) (first | (go_at_call 141; (with_reducible refine (H1.out _ _ ?_ ).mono ?_); (· (refine isZ_s (L.getN ?_); (repeat (first | (with_reducible exact mS) | apply mT)))); rintro e wh ⟨vh, rfl, iz, be⟩; obtain ⟨A4, c4, rfl, in9⟩:=iz.form; replace L:=(L.step be).n in9; clear be iz in9; (try (obtain ⟨x00,x01,x02,x03⟩:=L.b0.a4; obtain ⟨y00,y01,y02,y03⟩:=L.b0.f4))) | (go_at_call 112; (with_reducible refine (H2.out _ _ ?_ ).mono ?_); (· (refine isZ_s (L.getN ?_); (repeat (first | (with_reducible exact mS) | apply mT)))); rintro e wh ⟨vh, rfl, iz, be⟩; obtain ⟨A5, c5, rfl, in9⟩:=iz.form; replace L:=(L.step be).n in9; clear be iz in9; (try (obtain ⟨x00,x01,x02,x03⟩:=L.b0.a4; obtain ⟨y00,y01,y02,y03⟩:=L.b0.f4))) | (go_at_call 141; (with_reducible refine (H3.out _ _ ?_ ).mono ?_); (· (refine isZ_s (L.getN ?_); (repeat (first | (with_reducible exact mS) | apply mT)))); rintro e wh ⟨vh, rfl, iz, be⟩; obtain ⟨A6, c6, rfl, in9⟩:=iz.form; replace L:=(L.step be).n in9; clear be iz in9; (try (obtain ⟨x00,x01,x02,x03⟩:=L.b0.a4; obtain ⟨y00,y01,y02,y03⟩:=L.b0.f4))) | (go_at_call 112; (with_reducible refine (H4.out _ _ ?_ ).mono ?_); (· (refine isZ_s (L.getN ?_); (repeat (first | (with_reducible exact mS) | apply mT)))); rintro e wh ⟨vh, rfl, iz, be⟩; obtain ⟨A7, c7, rfl, in9⟩:=iz.form; replace L:=(L.step be).n in9; clear be iz in9; (try (obtain ⟨x00,x01,x02,x03⟩:=L.b0.a4; obtain ⟨y00,y01,y02,y03⟩:=L.b0.f4))))
  clear c00 f00 c01 f01 c02 f02 c03 f03 c10 c11 c12 c13
  go_wp2_with fail
  have LP:=L.putS (by omega) (by first | (simp; done) | (simp; omega)) (ng x) A4 (zl x) c4 (ng y) A7 (zl y) c7
  obtain ⟨k0,k1,k2,k3⟩:=LP.b0.a4
  unfold put4 at k0 k1 k2 k3
  exact bodyPost_ret (v:=.agg #[.bool (ng x), .slice A4 (zl x) c4, .bool (ng y), .slice A7 (zl y) c7]) (by simp [results, Tryz.results69, go_sem, k0, k1, k2, k3]) rfl ⟨_, rfl, isS_n (LP.getN (by simp)) (LP.getN (by simp)), LP.below⟩

theorem s13of_any (n : Int) (j : Nat) (w : World) (h1 : -1000 ≤ n) (h2 : n ≤ 1000) (hj : j ≤ 100000) :
  Calls Tryz.prog 67 #[.int .i64 n, .int .i64 (j : Int)] w (RetSp w (n * 2 ^ j) (n * 2 ^ j)):=by
 have L0:=Lq.mk0 w
 have h3:=len_le1 (x:=n.natAbs) (by omega)
 have g1:=fun W => rzof_any n W (by omega) (by omega)
 have g2:=fun v W h => rzshl_any n v W h (show zl n ≤ 274877906944 from Nat.le_trans h3 (by omega)) j (by omega)
 obtain ⟨x, hx⟩:=nm9 (n * 2 ^ j)
 rw [hx] at g2 ⊢
 have H1:=Hd9 g1
 have H2:=Hd9 g2
 clear g1 g2 hx h3
 go_enter Tryz.func67, Tryz.ntmps67
 go_wp2_with fail
 have L:=(L0.varS (w.heap.size) (by simp) false none 0 0 false none 0 0)
 obtain ⟨c00,c01,c02,c03⟩:=L.b0.a4
 obtain ⟨f00,f01,f02,f03⟩:=L.b0.f4
 (try go_wp2_with fail)
 refine (H1.out _).mono ?_
 rintro e w1 ⟨v1, rfl, iz, be⟩
 clear c00 f00 c01 f01 c02 f02 c03 f03
 replace L:=(L.step be).z iz
 obtain ⟨A8, c8, rfl, _⟩:=iz.form
 clear be iz
 obtain ⟨c00,c01,c02,c03⟩:=L.b0.a4
 obtain ⟨f00,f01,f02,f03⟩:=L.b0.f4
 (try go_wp2_with fail)
 refine (H2.out _ _ (L.getZ (by simp))).mono ?_
 rintro e w2 ⟨v2, rfl, iz, be⟩
 clear c00 f00 c01 f01 c02 f02 c03 f03
 replace L:=L.step be
 obtain ⟨A9, c9, rfl, in9⟩:=iz.form
 replace L:=L.n in9
 clear be iz in9
 obtain ⟨c00,c01,c02,c03⟩:=L.b0.a4
 obtain ⟨f00,f01,f02,f03⟩:=L.b0.f4
 have hl9:=L.b0.lt
 have LN:=L.varZ w2.heap.size rfl (ng x) A9 (zl x) c9
 obtain ⟨n0,n1⟩:=LN.b0.a2
 go_wp2_with fail
 clear c00 f00 c01 f01 c02 f02 c03 f03
 have LP0:=L.putS (by omega) (by simp) (ng x) A9 (zl x) c9 (ng x) A9 (zl x) c9
 have LP:=LP0.varZ _ rfl (ng x) A9 (zl x) c9
 obtain ⟨k0,k1,k2,k3⟩:=LP.tl.b0.a4
 unfold put4 at k0 k1 k2 k3
 exact bodyPost_ret (v:=.agg #[.bool (ng x), .slice A9 (zl x) c9, .bool (ng x), .slice A9 (zl x) c9]) (by simp [results, Tryz.results67, go_sem, k0, k1, k2, k3]) rfl ⟨_, rfl, isS_n (LP.getN (by simp)) (LP.getN (by simp)), LP.below⟩
theorem s13times_any (a b n : Int) (vx : Value) (w : World) (hx : IsS w vx a b) (la : zl a ≤ 10000) (lb : zl b ≤ 10000) (h1 : -4000 ≤ n) (h2 : n ≤ 4000) :
  Calls Tryz.prog 72 #[vx, .int .i64 n] w (RetSp w (a * n) (b * n)):=by
 obtain ⟨A, c, B, d, rfl, hn1, hn2⟩:=hx.form
 have L0:=((Lq.mk0 w).n hn2).n hn1
 have h3:=len_le1 (x:=n.natAbs) (by omega)
 have g0:=fun W => rzof_any n W (by omega) (by omega)
 have g1:=fun v u W h k => rzmul_any a n v u W h k (by omega) (show zl n ≤ 274877906944 from Nat.le_trans h3 (by omega))
 have g2:=fun v u W h k => rzmul_any b n v u W h k (by omega) (show zl n ≤ 274877906944 from Nat.le_trans h3 (by omega))
 obtain ⟨x, hx⟩:=nm9 (a * n)
 obtain ⟨y, hy⟩:=nm9 (b * n)
 rw [hx] at g1 ⊢
 rw [hy] at g2 ⊢
 have H0:=Hd9 g0
 have H1:=Hd9 g1
 have H2:=Hd9 g2
 clear g0 g1 g2 hx hy h3 hn1 hn2 la lb
 go_enter Tryz.func72, Tryz.ntmps72
 go_wp2_with fail
 have L:=((L0.varS (w.heap.size) (by simp) (ng a) A (zl a) c (ng b) B (zl b) d).varS (w.heap.size + 1) (by simp) false none 0 0 false none 0 0)
 obtain ⟨c00,c01,c02,c03⟩:=L.b0.a4
 obtain ⟨f00,f01,f02,f03⟩:=L.b0.f4
 obtain ⟨c10,c11,c12,c13⟩:=L.tl.b0.a4
 (try go_wp2_with fail)
 refine (H0.out _).mono ?_
 rintro e w1 ⟨v1, rfl, iz, be⟩
 clear c00 f00 c01 f01 c02 f02 c03 f03 c10 c11 c12 c13
 replace L:=L.step be
 obtain ⟨A7, c7, rfl, in9⟩:=iz.form
 replace L:=L.n in9
 clear be iz in9
 have hl9:=L.b0.lt
 replace L:=L.varZ w1.heap.size rfl (ng n) A7 (zl n) c7
 obtain ⟨c00,c01⟩:=L.b0.a2
 obtain ⟨f00,f01⟩:=L.b0.f2
 obtain ⟨c10,c11,c12,c13⟩:=L.tl.b0.a4
 obtain ⟨f10,f11,f12,f13⟩:=L.tl.b0.f4
 obtain ⟨c20,c21,c22,c23⟩:=L.tl.tl.b0.a4
 (try go_wp2_with fail)
 clear c00 f00 c01 f01 c10 f10 c11 f11 c12 f12 c13 f13 c20 c21 c22 c23
 obtain ⟨gx, hgx⟩:=nm9 (w1.heap.size)
 replace L:=L.drew
 rw [hgx] at L hl9 ⊢
 clear hgx
 have n1 : w.heap.size + 1 ≠ gx:=by omega
 replace L:=L.swap
 obtain ⟨c00,c01,c02,c03⟩:=L.b0.a4
 obtain ⟨f00,f01,f02,f03⟩:=L.b0.f4
 obtain ⟨c10,c11⟩:=L.tl.b0.a2
 obtain ⟨f10,f11⟩:=L.tl.b0.f2
 obtain ⟨c20,c21,c22,c23⟩:=L.tl.tl.b0.a4
 go_region_held3 (fun w' => w'.cell? ⟨w.heap.size, 0, none⟩ = some (.bool (ng a)) ∧ w'.cell? ⟨w.heap.size, 1, none⟩ = some (.slice A (zl a) c) ∧ w'.cell? ⟨w.heap.size, 2, none⟩ = some (.bool (ng b)) ∧ w'.cell? ⟨w.heap.size, 3, none⟩ = some (.slice B (zl b) d) ∧ w'.cell? ⟨gx, 0, none⟩ = some (.bool (ng n)) ∧ w'.cell? ⟨gx, 1, none⟩ = some (.slice A7 (zl n) c7)) (first | (with_reducible exact ⟨L.tl.tl.b0.c40, L.tl.tl.b0.c41, L.tl.tl.b0.c42, L.tl.tl.b0.c43, L.tl.b0.c20, L.tl.b0.c21⟩) | (have LP:=L.putS (by omega) (by first | (simp; done) | (simp; omega)) (ng x) A8 (zl x) c8 (ng y) A9 (zl y) c9; unfold put4 at LP; with_reducible exact ⟨LP.tl.tl.b0.c40, LP.tl.tl.b0.c41, LP.tl.tl.b0.c42, LP.tl.tl.b0.c43, LP.tl.b0.c20, LP.tl.b0.c21⟩) | exact ⟨L.tl.tl.b0.c40, L.tl.tl.b0.c41, L.tl.tl.b0.c42, L.tl.tl.b0.c43, L.tl.b0.c20, L.tl.b0.c21⟩) (first | (go_at_call 96; (with_reducible refine (H1.out _ _ _ ?_ ?_ ).mono ?_); (· (refine isZ_s (L.getN ?_); (repeat (first | (with_reducible exact mS) | apply mT)))); (· (refine isZ_s (L.getN ?_); (repeat (first | (with_reducible exact mS) | apply mT)))); rintro e wh ⟨vh, rfl, iz, be⟩; obtain ⟨A8, c8, rfl, in9⟩:=iz.form; replace L:=(L.step be).n in9; clear be iz in9; (try (obtain ⟨x00,x01,x02,x03⟩:=L.b0.a4; obtain ⟨y00,y01,y02,y03⟩:=L.b0.f4))) | (go_at_call 96; (with_reducible refine (H2.out _ _ _ ?_ ?_ ).mono ?_); (· (refine isZ_s (L.getN ?_); (repeat (first | (with_reducible exact mS) | apply mT)))); (· (refine isZ_s (L.getN ?_); (repeat (first | (with_reducible exact mS) | apply mT)))); rintro e wh ⟨vh, rfl, iz, be⟩; obtain ⟨A9, c9, rfl, in9⟩:=iz.form; replace L:=(L.step be).n in9; clear be iz in9; (try (obtain ⟨x00,x01,x02,x03⟩:=L.b0.a4; obtain ⟨y00,y01,y02,y03⟩:=L.b0.f4))))
 clear c00 f00 c01 f01 c02 f02 c03 f03 c10 f10 c11 f11 c20 c21 c22 c23
 go_wp2_with fail
 have LP:=L.putS (by omega) (by first | (simp; done) | (simp; omega)) (ng x) A8 (zl x) c8 (ng y) A9 (zl y) c9
 obtain ⟨k0,k1,k2,k3⟩:=LP.b0.a4
 unfold put4 at k0 k1 k2 k3
 exact bodyPost_ret (v:=.agg #[.bool (ng x), .slice A8 (zl x) c8, .bool (ng y), .slice A9 (zl y) c9]) (by simp [results, Tryz.results72, go_sem, k0, k1, k2, k3]) rfl ⟨_, rfl, isS_n (LP.getN (by simp)) (LP.getN (by simp)), LP.below⟩
theorem s13wide_any (a b n : Int) (vx : Value) (w : World) (hx : IsS w vx a b) (la : zl a ≤ 10000) (lb : zl b ≤ 10000) (h1 : -1000 ≤ n) (h2 : n ≤ 1000) :
  Calls Tryz.prog 73 #[vx, .int .i64 n] w (RetSp w (a - n) (b + n)):=by
 obtain ⟨A, c, B, d, rfl, hn1, hn2⟩:=hx.form
 have L0:=((Lq.mk0 w).n hn2).n hn1
 have h3:=len_le1 (x:=n.natAbs) (by omega)
 have g0:=fun W => rzof_any n W (by omega) (by omega)
 have g1:=fun v u W h k => rzsub_any a n v u W h k (by omega) (show zl n ≤ 274877906944 from Nat.le_trans h3 (by omega))
 have g2:=fun v u W h k => rzadd_any b n v u W h k (by omega) (show zl n ≤ 274877906944 from Nat.le_trans h3 (by omega))
 obtain ⟨x, hx⟩:=nm9 (a - n)
 obtain ⟨y, hy⟩:=nm9 (b + n)
 rw [hx] at g1 ⊢
 rw [hy] at g2 ⊢
 have H0:=Hd9 g0
 have H1:=Hd9 g1
 have H2:=Hd9 g2
 clear g0 g1 g2 hx hy h3 hn1 hn2 la lb
 go_enter Tryz.func73, Tryz.ntmps73
 go_wp2_with fail
 have L:=((L0.varS (w.heap.size) (by simp) (ng a) A (zl a) c (ng b) B (zl b) d).varS (w.heap.size + 1) (by simp) false none 0 0 false none 0 0)
 replace L:=L.drew
 obtain ⟨c00,c01,c02,c03⟩:=L.b0.a4
 obtain ⟨f00,f01,f02,f03⟩:=L.b0.f4
 obtain ⟨c10,c11,c12,c13⟩:=L.tl.b0.a4
 go_region_held3 (fun w' => w'.cell? ⟨w.heap.size, 0, none⟩ = some (.bool (ng a)) ∧ w'.cell? ⟨w.heap.size, 1, none⟩ = some (.slice A (zl a) c) ∧ w'.cell? ⟨w.heap.size, 2, none⟩ = some (.bool (ng b)) ∧ w'.cell? ⟨w.heap.size, 3, none⟩ = some (.slice B (zl b) d)) (first | (with_reducible exact ⟨L.tl.b0.c40, L.tl.b0.c41, L.tl.b0.c42, L.tl.b0.c43⟩) | (have LP:=L.putS (by omega) (by first | (simp; done) | (simp; omega)) (ng x) A8 (zl x) c8 (ng y) A9 (zl y) c9; unfold put4 at LP; with_reducible exact ⟨LP.tl.b0.c40, LP.tl.b0.c41, LP.tl.b0.c42, LP.tl.b0.c43⟩) | exact ⟨L.tl.b0.c40, L.tl.b0.c41, L.tl.b0.c42, L.tl.b0.c43⟩) (first | (go_at_call 47; (with_reducible refine (H0.out _ ).mono ?_); rintro e wh ⟨vh, rfl, iz, be⟩; obtain ⟨A7, c7, rfl, in9⟩:=iz.form; replace L:=(L.step be).n in9; clear be iz in9; (try (obtain ⟨x00,x01,x02,x03⟩:=L.b0.a4; obtain ⟨y00,y01,y02,y03⟩:=L.b0.f4))) | (go_at_call 143; (with_reducible refine (H1.out _ _ _ ?_ ?_ ).mono ?_); (· (refine isZ_s (L.getN ?_); (repeat (first | (with_reducible exact mS) | apply mT)))); (· (refine isZ_s (L.getN ?_); (repeat (first | (with_reducible exact mS) | apply mT)))); rintro e wh ⟨vh, rfl, iz, be⟩; obtain ⟨A8, c8, rfl, in9⟩:=iz.form; replace L:=(L.step be).n in9; clear be iz in9; (try (obtain ⟨x00,x01,x02,x03⟩:=L.b0.a4; obtain ⟨y00,y01,y02,y03⟩:=L.b0.f4))) | (go_at_call 118; (with_reducible refine (H2.out _ _ _ ?_ ?_ ).mono ?_); (· (refine isZ_s (L.getN ?_); (repeat (first | (with_reducible exact mS) | apply mT)))); (· (refine isZ_s (L.getN ?_); (repeat (first | (with_reducible exact mS) | apply mT)))); rintro e wh ⟨vh, rfl, iz, be⟩; obtain ⟨A9, c9, rfl, in9⟩:=iz.form; replace L:=(L.step be).n in9; clear be iz in9; (try (obtain ⟨x00,x01,x02,x03⟩:=L.b0.a4; obtain ⟨y00,y01,y02,y03⟩:=L.b0.f4))))
 clear c00 f00 c01 f01 c02 f02 c03 f03 c10 c11 c12 c13
 go_wp2_with fail
 have LP:=L.putS (by omega) (by first | (simp; done) | (simp; omega)) (ng x) A8 (zl x) c8 (ng y) A9 (zl y) c9
 obtain ⟨k0,k1,k2,k3⟩:=LP.b0.a4
 unfold put4 at k0 k1 k2 k3
 exact bodyPost_ret (v:=.agg #[.bool (ng x), .slice A8 (zl x) c8, .bool (ng y), .slice A9 (zl y) c9]) (by simp [results, Tryz.results73, go_sem, k0, k1, k2, k3]) rfl ⟨_, rfl, isS_n (LP.getN (by simp)) (LP.getN (by simp)), LP.below⟩
theorem s13tiny_any (a b : Int) (vx : Value) (w : World) (hx : IsS w vx a b) (la : zl a ≤ 10000) (lb : zl b ≤ 10000) :
  Calls Tryz.prog 70 #[vx] w (RetB w (tnB a b)):=by
 obtain ⟨A, c, B, d, rfl, hn1, hn2⟩:=hx.form
 have L0:=((Lq.mk0 w).n hn2).n hn1
 have e1 : decide (a.natAbs ≤ 1) = decide (cmpI (a.natAbs : Int) ((1 : Nat) : Int) ≤ 0):=by
  rw [decide_eq_decide, cmpI_le]
  omega
 have e2 : decide (b.natAbs ≤ 1) = decide (cmpI (b.natAbs : Int) ((1 : Nat) : Int) ≤ 0):=by
  rw [decide_eq_decide, cmpI_le]
  omega
 have g0:=fun W => rof_any 1 W (by omega)
 have g1:=fun v u W h k => rcmpB_any a.natAbs 1 v u W h k
 have g2:=fun v u W h k => rcmpB_any b.natAbs 1 v u W h k
 unfold tnB
 rw [e1, e2]
 obtain ⟨x, hx⟩:=nm9 (cmpI (a.natAbs : Int) ((1 : Nat) : Int))
 obtain ⟨y, hy⟩:=nm9 (cmpI (b.natAbs : Int) ((1 : Nat) : Int))
 rw [hx] at g1 ⊢
 rw [hy] at g2 ⊢
 have H0:=Hd9 g0
 have H1:=Hd9 g1
 have H2:=Hd9 g2
 clear g0 g1 g2 hx hy e1 e2 hn1 hn2 la lb
 cases t1 : decide (x ≤ 0)
 ·have n1 : ¬ x ≤ 0:=of_decide_eq_false t1
  rw [Bool.false_and]
  go_enter Tryz.func70, Tryz.ntmps70
  go_wp2_with fail
  have L:=(L0.varS (w.heap.size) (by simp) (ng a) A (zl a) c (ng b) B (zl b) d)
  obtain ⟨c00,c01,c02,c03⟩:=L.b0.a4
  (try go_wp2_with fail)
  refine (H0.out _).mono ?_
  rintro e w1 ⟨vv, rfl, o⟩
  clear c00 c01 c02 c03
  replace L:=(L.step o.below).n o.isN
  clear o
  obtain ⟨c00,c01,c02,c03⟩:=L.b0.a4
  (try go_wp2_with fail)
  refine (H1.out _ _ _ (L.getN (by simp)) (L.getN (by simp))).mono ?_
  rintro e w2 ⟨rfl, be⟩
  clear c00 c01 c02 c03
  replace L:=L.step be
  clear be
  obtain ⟨c00,c01,c02,c03⟩:=L.b0.a4
  (try go_wp2_with fail)
  go_ret
  exact ⟨rfl, L.below⟩
 ·have n1 : x ≤ 0:=of_decide_eq_true t1
  rw [Bool.true_and]
  obtain ⟨z, hz⟩:=nm9 (decide (y ≤ 0))
  rw [hz]
  go_enter Tryz.func70, Tryz.ntmps70
  go_wp2_with fail
  have L:=(L0.varS (w.heap.size) (by simp) (ng a) A (zl a) c (ng b) B (zl b) d)
  obtain ⟨c00,c01,c02,c03⟩:=L.b0.a4
  (try go_wp2_with fail)
  refine (H0.out _).mono ?_
  rintro e w1 ⟨vv, rfl, o⟩
  clear c00 c01 c02 c03
  replace L:=(L.step o.below).n o.isN
  clear o
  obtain ⟨c00,c01,c02,c03⟩:=L.b0.a4
  (try go_wp2_with fail)
  refine (H1.out _ _ _ (L.getN (by simp)) (L.getN (by simp))).mono ?_
  rintro e w2 ⟨rfl, be⟩
  clear c00 c01 c02 c03
  replace L:=L.step be
  clear be
  obtain ⟨c00,c01,c02,c03⟩:=L.b0.a4
  (try go_wp2_with fail)
  refine (H2.out _ _ _ (L.getN (by simp)) (L.getN (by simp))).mono ?_
  rintro e w3 ⟨rfl, be⟩
  clear c00 c01 c02 c03
  replace L:=L.step be
  clear be
  (try go_wp2_with fail)
  go_ret
  exact ⟨rfl, L.below⟩

theorem Lq.sub {w0 w : World} {ns : List (Value × Nat)} {zs : List (Value × Int)} {qs : List (Value × Int × Nat)} {bs : List (Nat × TypeId × Array Value)} (h : Lq w0 w ns zs qs bs) {ns' : List (Value × Nat)} {bs' : List (Nat × TypeId × Array Value)} (h1 : ∀ p ∈ ns', p ∈ ns) (h2 : ∀ b ∈ bs', b ∈ bs) : Lq w0 w ns' [] [] bs':=
 ⟨h.below, fun x hx => h.ns x (h1 x hx), fun _ x => (by cases x), fun _ x => (by cases x), fun x hx => h.bs x (h2 x hx)⟩

theorem s13ln_any (v : Nat) (w : World) (hv : v ≤ 10000) :
  Calls Tryz.prog 74 #[.int .i64 (v : Int)] w (RetSp w (lnL v) (lnH v)):=by
 have HV:=Hd9 hv
 have g1:=fun W => s13of_any 1 v W (by omega) (by omega) (by omega)
 have g0:=fun W => s13of_any 0 v W (by omega) (by omega) (by omega)
 rw [Int.one_mul] at g1
 rw [Int.zero_mul] at g0
 have t0:=tm_one v
 have q0:=at_first (n:=3) (by omega) v
 have z0:=t0.abs.1.zl
 have g2:=fun x W h => s13over_any (2 ^ v) (2 ^ v) 3 x W h (by omega) (by omega) (Int.le_refl _) (by omega) (by omega)
 have HXY:=Hd9 (show lnL v = ((lnR v 0 (2 ^ v / 3) (cdv (2 ^ v) 3) 0 0).1 - 2) * 2 ∧ lnH v = ((lnR v 0 (2 ^ v / 3) (cdv (2 ^ v) 3) 0 0).2 + 2) * 2 from ⟨rfl, rfl⟩)
 generalize lnL v = X at *
 generalize lnH v = Y at *
 generalize (2 : Int) ^ v = P at *
 obtain ⟨a, ha⟩:=nm9 (P / 3)
 obtain ⟨b, hb⟩:=nm9 (cdv P 3)
 rw [ha, hb] at g2 q0 HXY
 obtain ⟨R, hR⟩:=nm9 (lnR v 0 a b 0 0)
 rw [hR] at HXY
 have HR:=Hd9 (And.intro q0 hR)
 have G0:=Hd9 g0
 have G1:=Hd9 g1
 have G2:=Hd9 g2
 clear g0 g1 g2 hR q0 t0 z0 ha hb
 go_enter Tryz.func74, Tryz.ntmps74
 have L:=((Lq.mk0 w).varS (w.heap.size) (by simp) false none 0 0 false none 0 0)
 (try go_wp2_with fail)
 obtain ⟨V, hV⟩:=nm9 (w.alloc (.cells #[.bool false, .slice none 0 0, .bool false, .slice none 0 0] 79))
 rw [hV] at L ⊢
 clear hV
 have hwV:=L.b0.lt
 have LL:=Hd9 L
 clear L
 have L:=Lq.mk0 V
 refine (G1.out _).mono ?_
 rintro e w1 ⟨vv, rfl, iq, be⟩
 obtain ⟨A5, c5, B5, d5, rfl, ia, ib⟩:=iq.form
 replace L:=((L.step be).n ib).n ia
 clear be iq ia ib
 go_wp2_with fail
 refine (G2.out _ _ (isS_n (a:=P) (b:=P) (s:=.slice A5 (zl P) c5) (t:=.slice B5 (zl P) d5) (L.getN (by simp)) (L.getN (by simp)))).mono ?_
 rintro e w2 ⟨vv, rfl, iq, be⟩
 obtain ⟨A1, c1, B1, d1, rfl, ia, ib⟩:=iq.form
 replace L:=((L.step be).n ib).n ia
 clear be iq ia ib
 have hVt : V.heap.size ≤ w2.heap.size:=L.below.size
 replace L:=L.varS w2.heap.size rfl (ng a) A1 (zl a) c1 (ng b) B1 (zl b) d1
 obtain ⟨c00,c01,c02,c03⟩:=L.b0.a4
 go_wp2_with fail
 clear c00 c01 c02 c03
 obtain ⟨gt, hgt⟩:=nm9 (w2.heap.size)
 rw [hgt] at L hVt ⊢
 clear hgt
 refine (G0.out _).mono ?_
 rintro e w3 ⟨vv, rfl, iq, be⟩
 obtain ⟨A2, c2, B2, d2, rfl, ia, ib⟩:=iq.form
 replace L:=((L.step be).n ib).n ia
 clear be iq ia ib
 have hlt1:=L.b0.lt
 replace L:=L.varS w3.heap.size rfl (ng 0) A2 (zl 0) c2 (ng 0) B2 (zl 0) d2
 obtain ⟨c00,c01,c02,c03⟩:=L.b0.a4
 obtain ⟨c10,c11,c12,c13⟩:=L.tl.b0.a4
 go_wp2_with fail
 clear c00 c01 c02 c03 c10 c11 c12 c13
 obtain ⟨gs, hgs⟩:=nm9 (w3.heap.size)
 rw [hgs] at L hlt1 ⊢
 clear hgs
 replace L:=L.swap
 clear G0 G1 G2
 go_loopw [5] (fun i wr => ∃ (f k : Nat) (a b s u : Int) (A1 B1 A2 B2 : Option Addr) (c1 d1 c2 d2 : Nat), i = .int .i64 (k : Int) ∧ Lq V wr [(.slice A1 (zl a) c1, a.natAbs), (.slice B1 (zl b) d1, b.natAbs), (.slice A2 (zl s) c2, s.natAbs), (.slice B2 (zl u) d2, u.natAbs)] [] [] [(gt, 79, #[.bool (ng a), .slice A1 (zl a) c1, .bool (ng b), .slice B1 (zl b) d1]), (gs, 79, #[.bool (ng s), .slice A2 (zl s) c2, .bool (ng u), .slice B2 (zl u) d2])] ∧ Hid (SeI v f k a b s u ∧ lnR f k a b s u = R)) (fun i _ => v + 4 - (intOf i).toNat)
 case atStart => exact ⟨v, 0, a, b, 0, 0, A1, B1, A2, B2, c1, d1, c2, d2, by go_num, L.sub (by simp) (by simp), HR⟩
 case round =>
  clear L HR
  obtain ⟨f, k, a, b, s, u, A1, B1, A2, B2, c1, d1, c2, d2, rfl, L, HR⟩:=hrel
  obtain ⟨sa, sb, ss, su, hab, hk⟩:=HR.out.1.sizes HV.out
  have hfk:=HR.out.1.2.1
  have tn0:=fun x W h => s13tiny_any a b x W h (by omega) (by omega)
  have hv:=HV.out
  have hl1:=L.b0.lt
  have hl2:=L.tl.b0.lt
  cases ht : tnB a b
  ·rw [ht] at tn0
   have TN:=Hd9 tn0
   obtain ⟨g, rfl, t2, n1, n2⟩:=ln_step HR.out.1 ht
   have x3:=t2.abs.1.zl
   have x4:=t2.abs.2.zl
   have hE:=HR.out.2
   rw [n2] at hE
   have o1:=fun x W h => s13over_any a b (2 * (k : Int) + 1) x W h (by omega) (by omega) hab (by omega) (by omega)
   have o2:=fun x W h => s13over_any a b 9 x W h (by omega) (by omega) hab (by omega) (by omega)
   have o5:=fun x y W h j => s13add_any s u (a / (2 * (k : Int) + 1)) (cdv b (2 * (k : Int) + 1)) x y W h j (by omega) (by omega) (by omega) (by omega)
   have hkv : k ≤ v + 2:=by omega
   obtain ⟨q, hq⟩ : ∃ q : Int, 2 * (k : Int) + 1 = q:=⟨_, rfl⟩
   have w1 : IntKind.i64.wrap (2 * (k : Int)) = 2 * (k : Int):=by rw [IntKind.wrap_i64]; omega
   have w2 : IntKind.i64.wrap (2 * (k : Int) + 1) = q:=by rw [IntKind.wrap_i64]; omega
   have w3 : IntKind.i64.wrap ((k : Int) + 1) = (k : Int) + 1:=by rw [IntKind.wrap_i64]; omega
   rw [hq] at o1 o5 n1 hE
   obtain ⟨p, hp⟩:=nm9 (a / q)
   rw [hp] at o1 o5 n1 hE
   obtain ⟨r, hr⟩:=nm9 (cdv b q)
   rw [hr] at o1 o5 n1 hE
   obtain ⟨a4, ha4⟩:=nm9 (a / 9)
   rw [ha4] at o2 n1 hE
   obtain ⟨b4, hb4⟩:=nm9 (cdv b 9)
   rw [hb4] at o2 n1 hE
   obtain ⟨s4, hs4⟩:=nm9 (s + p)
   rw [hs4] at o5 n1 hE
   obtain ⟨u4, hu4⟩:=nm9 (u + r)
   rw [hu4] at o5 n1 hE
   have O1:=Hd9 o1
   have O2:=Hd9 o2
   have O5:=Hd9 o5
   have HR:=Hd9 (And.intro n1 hE)
   clear o1 o2 o5 tn0 hq hp hr ha4 hb4 hs4 hu4 t2 x3 x4 sa sb ss su hab n1 n2 hE ht hfk
   obtain ⟨cel00,cel01,cel02,cel03⟩:=L.b0.a4
   go_wp2_with fail
   refine (TN.out _ _ (isS_n (a:=a) (b:=b) (s:=.slice A1 (zl a) c1) (t:=.slice B1 (zl b) d1) (L.getN (by simp)) (L.getN (by simp)))).mono ?_
   rintro e w11 ⟨rfl, be⟩
   clear cel00 cel01 cel02 cel03
   replace L:=L.step be
   clear be
   have hVs : V.heap.size ≤ gs:=by omega
   replace L:=L.drew
   (try go_wp2_with fail)
   have LD:=L.swap
   clear L
   obtain ⟨cel00,cel01,cel02,cel03⟩:=LD.b0.a4
   obtain ⟨f00,f01,f02,f03⟩:=LD.b0.f4
   obtain ⟨cel10,cel11,cel12,cel13⟩:=LD.tl.b0.a4
   go_cut [22] from 16 to 22 (fun s9 wx => ∃ A6 c6 B6 d6, Lq V wx [(.slice A6 (zl s4) c6, s4.natAbs), (.slice B6 (zl u4) d6, u4.natAbs), (.slice A1 (zl a) c1, a.natAbs), (.slice B1 (zl b) d1, b.natAbs)] [] [] [(gs, 79, #[.bool (ng s4), .slice A6 (zl s4) c6, .bool (ng u4), .slice B6 (zl u4) d6]), (gt, 79, #[.bool (ng a), .slice A1 (zl a) c1, .bool (ng b), .slice B1 (zl b) d1])])
   case first =>
    go_region_with (first | (go_at_call 71; (with_reducible refine (O1.out _ _ ?_).mono ?_); (· (refine isS_n (LD.getN ?_) (LD.getN ?_) <;> (repeat (first | (with_reducible exact mS) | apply mT)))); rintro e9 wh ⟨vh, rfl, iq, be⟩; obtain ⟨A5, c5, B5, d5, rfl, ia, ib⟩:=iq.form; replace LD:=((LD.step be).n ib).n ia; clear be iq ia ib; (try (obtain ⟨r0,r1,r2,r3⟩:=LD.b0.a4; obtain ⟨s0,s1,s2,s3⟩:=LD.b0.f4))) | (go_at_call 68; (with_reducible refine (O5.out _ _ _ ?_ ?_).mono ?_); (· (refine isS_n (LD.getN ?_) (LD.getN ?_) <;> (repeat (first | (with_reducible exact mS) | apply mT)))); (· (refine isS_n (LD.getN ?_) (LD.getN ?_) <;> (repeat (first | (with_reducible exact mS) | apply mT)))); rintro e9 wh ⟨vh, rfl, iq, be⟩; obtain ⟨A6, c6, B6, d6, rfl, ia, ib⟩:=iq.form; replace LD:=((LD.step be).n ib).n ia; clear be iq ia ib; (try (obtain ⟨r0,r1,r2,r3⟩:=LD.b0.a4; obtain ⟨s0,s1,s2,s3⟩:=LD.b0.f4))))
    all_goals
     have LP:=LD.putS (by omega) (by first | (simp; done) | (simp; omega)) (ng s4) A6 (zl s4) c6 (ng u4) B6 (zl u4) d6
     unfold put4 at LP
     go_wp2_with fail
     go_meet
     exact ⟨A6, c6, B6, d6, LP.sub (by simp) (by simp)⟩
   case rest =>
    obtain ⟨A6, c6, B6, d6, L⟩:=hcut
    generalize wc = wd at *
    clear LD O1 O5
    obtain ⟨cel10,cel11,cel12,cel13⟩:=L.tl.b0.a4
    (try go_wp2_with fail)
    refine (O2.out _ _ (isS_n (a:=a) (b:=b) (s:=.slice A1 (zl a) c1) (t:=.slice B1 (zl b) d1) (L.getN (by simp)) (L.getN (by simp)))).mono ?_
    rintro e w41 ⟨vv, rfl, iq, be⟩
    clear cel10 cel11 cel12 cel13
    obtain ⟨A8, c8, B8, d8, rfl, ia, ib⟩:=iq.form
    replace L:=((L.step be).n ib).n ia
    clear be iq ia ib
    obtain ⟨cel10,cel11,cel12,cel13⟩:=L.tl.b0.a4
    obtain ⟨f10,f11,f12,f13⟩:=L.tl.b0.f4
    replace L:=L.swap.putS (by omega) (by first | (simp; done) | (simp; omega)) (ng a4) A8 (zl a4) c8 (ng b4) B8 (zl b4) d8
    unfold put4 at L
    go_wp2_with fail
    go_roundw
    case rel => exact ⟨g, k + 1, a4, b4, s4, u4, A8, B8, A6, B6, c8, d8, c6, d6, by go_num, L.sub (by simp) (by simp), HR⟩
    case measure => simp [intOf]; omega
  ·rw [ht] at tn0
   have TN:=Hd9 tn0
   have hE:=HR.out.2
   rw [lnR_end ht] at hE
   obtain ⟨e1, e2⟩:=HXY.out
   rw [← hE] at e1 e2
   have o1:=fun x W h => s13wide_any s u 2 x W h (by omega) (by omega) (by omega) (by omega)
   have m1:=zl_sub s 2
   have m2:=zl_add u 2
   have m3 : zl 2 ≤ 1:=len_le1 (by omega)
   have o2:=fun x W h => s13times_any (s - 2) (u + 2) 2 x W h (by omega) (by omega) (by omega) (by omega)
   rw [show (s - 2) * 2 = X from e1.symm, show (u + 2) * 2 = Y from e2.symm] at o2
   obtain ⟨s4, hs4⟩:=nm9 (s - 2)
   obtain ⟨u4, hu4⟩:=nm9 (u + 2)
   rw [hs4, hu4] at o1 o2
   have O1:=Hd9 o1
   have O2:=Hd9 o2
   clear o1 o2 e1 e2 hE tn0 HXY HR sa sb ss su hab ht m1 m2 m3 hs4 hu4
   obtain ⟨cel00,cel01,cel02,cel03⟩:=L.b0.a4
   go_wp2_with fail
   refine (TN.out _ _ (isS_n (a:=a) (b:=b) (s:=.slice A1 (zl a) c1) (t:=.slice B1 (zl b) d1) (L.getN (by simp)) (L.getN (by simp)))).mono ?_
   rintro e w11 ⟨rfl, be⟩
   clear cel00 cel01 cel02 cel03
   replace L:=L.step be
   clear be
   have hvs:=L.tl.b0
   have ha2:=L.getN (v:=.slice A2 (zl s) c2) (x:=s.natAbs) (by simp)
   have hb2:=L.getN (v:=.slice B2 (zl u) d2) (x:=u.natAbs) (by simp)
   have L:=(((LL.out.step L.below).n hb2).n ha2).b hvs
   clear hvs ha2 hb2 LL
   obtain ⟨cel00,cel01,cel02,cel03⟩:=L.b0.a4
   go_wp2_with fail
   refine (O1.out _ _ (isS_n (a:=s) (b:=u) (s:=.slice A2 (zl s) c2) (t:=.slice B2 (zl u) d2) (L.getN (by simp)) (L.getN (by simp)))).mono ?_
   rintro e w12 ⟨vv, rfl, iq, be⟩
   clear cel00 cel01 cel02 cel03
   obtain ⟨A9, c9, B9, d9, rfl, ia, ib⟩:=iq.form
   replace L:=((L.step be).n ib).n ia
   clear be iq ia ib
   go_wp2_with fail
   refine (O2.out _ _ (isS_n (a:=s4) (b:=u4) (s:=.slice A9 (zl s4) c9) (t:=.slice B9 (zl u4) d9) (L.getN (by simp)) (L.getN (by simp)))).mono ?_
   rintro e w13 ⟨vv, rfl, iq, be⟩
   obtain ⟨A10, c10, B10, d10, rfl, ia, ib⟩:=iq.form
   replace L:=((L.step be).n ib).n ia
   clear be iq ia ib
   replace L:=L.swap
   have n1 : w.heap.size ≠ gs:=by omega
   obtain ⟨cel00,cel01,cel02,cel03⟩:=L.b0.a4
   obtain ⟨f00,f01,f02,f03⟩:=L.b0.f4
   go_wp2_with fail
   have LP:=L.putS (by omega) (by first | (simp; done) | (simp; omega)) (ng X) A10 (zl X) c10 (ng Y) B10 (zl Y) d10
   obtain ⟨k0,k1,k2,k3⟩:=LP.b0.a4
   unfold put4 at k0 k1 k2 k3
   exact bodyPost_ret (v:=.agg #[.bool (ng X), .slice A10 (zl X) c10, .bool (ng Y), .slice B10 (zl Y) d10]) (by simp [results, Tryz.results74, go_sem, k0, k1, k2, k3]) rfl ⟨_, rfl, isS_n (LP.getN (by simp)) (LP.getN (by simp)), LP.below⟩

theorem s13out_any (a b : Int) (v k j : Nat) (vx : Value) (w : World) (hx : IsS w vx a b) (la : zl a ≤ 10000) (lb : zl b ≤ 10000) (hk : k ≤ 10000) (hj : v = k + j) (hj2 : j ≤ 10000) :
  Calls Tryz.prog 75 #[vx, .int .i64 (v : Int), .int .i64 (k : Int)] w (RetI6 w (mkM (a / 2 ^ j) (-(k : Int))) (mkE (a / 2 ^ j) (-(k : Int))) (mkM (cdv b (2 ^ j)) (-(k : Int))) (mkE (cdv b (2 ^ j)) (-(k : Int)))):=by
 obtain ⟨A, c, B, d, rfl, hn1, hn2⟩:=hx.form
 have L0:=((Lq.mk0 w).n hn2).n hn1
 have w1 : IntKind.i64.wrap ((v : Int) - (k : Int)) = (j : Int):=by rw [IntKind.wrap_i64]; omega
 have w2 : IntKind.i64.wrap (-(k : Int)) = -(k : Int):=by rw [IntKind.wrap_i64]; omega
 have p2:=pow2_pos j
 have z1:=zl_floor a p2
 have z2:=zl_floor (-b) p2
 have z3:=zl_neg b
 unfold cdv
 have g1:=fun x W h => rzshr_any a x W h (by omega) j (by omega)
 have g2:=fun x W h => rmake8_any (a / 2 ^ j) (-(k : Int)) x W h (by omega)
 have g3:=fun x W h => rzneg_any b x W h (by omega)
 have g4:=fun x W h => rzshr_any (-b) x W h (by omega) j (by omega)
 have g5:=fun x W h => rzneg_any (-b / 2 ^ j) x W h (by omega)
 have z4:=zl_neg (-b / 2 ^ j)
 have g6:=fun x W h => rmake8_any (-(-b / 2 ^ j)) (-(k : Int)) x W h (by omega)
 obtain ⟨p, hp⟩:=nm9 (a / 2 ^ j)
 rw [hp] at g1 g2 ⊢
 obtain ⟨q, hq⟩:=nm9 (-b)
 rw [hq] at g3 g4 g5 g6 ⊢
 obtain ⟨r, hr⟩:=nm9 (q / 2 ^ j)
 rw [hr] at g4 g5 g6 ⊢
 obtain ⟨s, hs⟩:=nm9 (-r)
 rw [hs] at g5 g6 ⊢
 generalize mkR p (-(k : Int)) = R at *
 generalize mkR s (-(k : Int)) = R2 at *
 obtain ⟨M, hM⟩:=nm9 (mkM p (-(k : Int)))
 rw [hM] at g2 ⊢
 obtain ⟨E, hE⟩:=nm9 (mkE p (-(k : Int)))
 rw [hE] at g2 ⊢
 obtain ⟨M2, hM2⟩:=nm9 (mkM s (-(k : Int)))
 rw [hM2] at g6 ⊢
 obtain ⟨E2, hE2⟩:=nm9 (mkE s (-(k : Int)))
 rw [hE2] at g6 ⊢
 have G1:=Hd9 g1
 have G2:=Hd9 g2
 have G3:=Hd9 g3
 have G4:=Hd9 g4
 have G5:=Hd9 g5
 have G6:=Hd9 g6
 clear g1 g2 g3 g4 g5 g6 z1 z2 z3 z4 p2 hp hq hr hs hM hE hM2 hE2 hn1 hn2 hj la lb
 go_enter Tryz.func75, Tryz.ntmps75
 go_wp2_with fail
 have L:=((L0.varS (w.heap.size) (by simp) (ng a) A (zl a) c (ng b) B (zl b) d).varI (w.heap.size + 1) (by simp) false none 0 0 0 false none 0 0 0)
 obtain ⟨c10,c11,c12,c13⟩:=L.tl.b0.a4
 (try go_wp2_with fail)
 refine (G1.out _ _ (isZ_s (z:=a) (s:=.slice A (zl a) c) (L.getN (by simp)))).mono ?_
 rintro e w1 ⟨vv, rfl, iz, be⟩
 clear c10 c11 c12 c13
 obtain ⟨A1, c1, rfl, in9⟩:=iz.form
 replace L:=(L.step be).n in9
 clear be iz in9
 go_wp2_with fail
 refine (G2.out _ _ (isZ_s (z:=p) (s:=.slice A1 (zl p) c1) (L.getN (by simp)))).mono ?_
 rintro e w2 ⟨vv, rfl, id, be⟩
 obtain ⟨A2, c2, rfl, _, in9⟩:=id.form
 replace L:=(L.step be).n in9
 clear be id in9
 have hl0:=L.b0.lt
 replace L:=L.varD w2.heap.size rfl (ng M) A2 (zl M) c2 E
 obtain ⟨c00,c01,c02⟩:=L.b0.a3
 obtain ⟨c20,c21,c22,c23⟩:=L.tl.tl.b0.a4
 go_wp2_with fail
 clear c00 c01 c02 c20 c21 c22 c23
 obtain ⟨g1, hg1⟩:=nm9 (w2.heap.size)
 rw [hg1] at L hl0 ⊢
 clear hg1
 refine (G3.out _ _ (isZ_s (z:=b) (s:=.slice B (zl b) d) (L.getN (by simp)))).mono ?_
 rintro e w3 ⟨vv, rfl, iz, be⟩
 obtain ⟨A3, c3, rfl, in9⟩:=iz.form
 replace L:=(L.step be).n in9
 clear be iz in9
 go_wp2_with fail
 refine (G4.out _ _ (isZ_s (z:=q) (s:=.slice A3 (zl q) c3) (L.getN (by simp)))).mono ?_
 rintro e w4 ⟨vv, rfl, iz, be⟩
 obtain ⟨A4, c4, rfl, in9⟩:=iz.form
 replace L:=(L.step be).n in9
 clear be iz in9
 go_wp2_with fail
 refine (G5.out _ _ (isZ_s (z:=r) (s:=.slice A4 (zl r) c4) (L.getN (by simp)))).mono ?_
 rintro e w5 ⟨vv, rfl, iz, be⟩
 obtain ⟨A5, c5, rfl, in9⟩:=iz.form
 replace L:=(L.step be).n in9
 clear be iz in9
 go_wp2_with fail
 refine (G6.out _ _ (isZ_s (z:=s) (s:=.slice A5 (zl s) c5) (L.getN (by simp)))).mono ?_
 rintro e w6 ⟨vv, rfl, id, be⟩
 obtain ⟨A6, c6, rfl, _, in9⟩:=id.form
 replace L:=((L.step be).n in9).swap
 clear be id in9
 have hlr:=L.b0.lt
 have hls:=L.tl.b0.lt
 obtain ⟨c00,c01,c02,c03,c04,c05⟩:=L.b0.a6
 obtain ⟨f00,f01,f02,f03,f04,f05⟩:=L.b0.f6
 have LN:=L.varD w6.heap.size rfl (ng M2) A6 (zl M2) c6 E2
 have n0:=LN.b0.c30
 have m0:=LN.tl.tl.b0.c30
 have n1:=LN.b0.c31
 have m1:=LN.tl.tl.b0.c31
 have n2:=LN.b0.c32
 have m2:=LN.tl.tl.b0.c32
 go_wp2_with fail
 clear c00 f00 c01 f01 c02 f02 c03 f03 c04 f04 c05 f05
 have LP0:=L.putI (by omega) (by first | (simp; done) | (simp; omega)) (ng M) A2 (zl M) c2 E (ng M2) A6 (zl M2) c6 E2
 have LP:=LP0.varD _ rfl (ng M2) A6 (zl M2) c6 E2
 obtain ⟨k0,k1,k2,k3,k4,k5⟩:=LP.tl.b0.a6
 unfold put6 at k0 k1 k2 k3 k4 k5
 exact bodyPost_ret (v:=.agg #[.bool (ng M), .slice A2 (zl M) c2, .int .i64 E, .bool (ng M2), .slice A6 (zl M2) c6, .int .i64 E2]) (by simp [results, Tryz.results75, go_sem, k0, k1, k2, k3, k4, k5]) rfl ⟨_, rfl, isI_n (LP.getN (by simp)) (LP.getN (by simp)), LP.below⟩
def RetLa (w : World) (x : Rat) (j : Nat) (en : Ending) (w' : World) : Prop:=∃ a b, RetI6 w (mkM a (-(j : Int))) (mkE a (-(j : Int))) (mkM b (-(j : Int))) (mkE b (-(j : Int))) en w' ∧ LnB j a b x ∧ AbP a 1000 ∧ AbP b 1000
theorem RetLa.mk {w w' : World} {x : Rat} {j : Nat} {en : Ending} {M E N F : Int} (h : ∃ a b, mkM a (-(j : Int)) = M ∧ mkE a (-(j : Int)) = E ∧ mkM b (-(j : Int)) = N ∧ mkE b (-(j : Int)) = F ∧ LnB j a b x ∧ AbP a 1000 ∧ AbP b 1000) (hr : RetI6 w M E N F en w') : RetLa w x j en w':=by
 obtain ⟨a, b, rfl, rfl, rfl, rfl, h1, h2, h3⟩:=h
 exact ⟨a, b, hr, h1, h2, h3⟩
theorem abp_zl {x : Int} {n j : Nat} (h : zl x ≤ n) (hj : 32 * n ≤ j) : AbP x j:=by
 have h1:=lt_pow_len x.natAbs
 have h2 : W32 ^ zl x ≤ W32 ^ n:=Nat.pow_le_pow_right W32_pos h
 have h3 : W32 ^ n = 2 ^ (32 * n):=by rw [show W32 = 2 ^ 32 from rfl, ← Nat.pow_mul]
 have h4 : (2 : Nat) ^ (32 * n) ≤ 2 ^ j:=Nat.pow_le_pow_right (by omega) hj
 unfold AbP
 have h5 : x.natAbs < W32 ^ zl x:=h1
 omega
theorem ln_size15 {v : Nat} (hv : v ≤ 300) : zl (lnL v) ≤ 25 ∧ zl (lnH v) ≤ 25:=by
 obtain ⟨h1, h2⟩:=lnR_abs v 0 (2 ^ v / 3) (cdv (2 ^ v) 3) 0 0 (at_first (n:=3) (by omega) v)
 have x1:=h1.zl
 have x2:=h2.zl
 have x3:=zl_sub (lnR v 0 (2 ^ v / 3) (cdv (2 ^ v) 3) 0 0).1 2
 have x4:=zl_add (lnR v 0 (2 ^ v / 3) (cdv (2 ^ v) 3) 0 0).2 2
 have x5 : zl 2 ≤ 1:=len_le1 (by omega)
 have x6:=zl_mul ((lnR v 0 (2 ^ v / 3) (cdv (2 ^ v) 3) 0 0).1 - 2) 2
 have x7:=zl_mul ((lnR v 0 (2 ^ v / 3) (cdv (2 ^ v) 3) 0 0).2 + 2) 2
 unfold lnL lnH lnS
 omega
theorem sum15 {v : Nat} (hv : v < 200) {s t : Int} {n : Nat} (hs : AbP s (2 * v + 4)) (ht : AbP t (2 * v + 4)) (hn : n ≤ 3000) : (AbP (s + -(lnH v * (n : Int))) 900 ∧ AbP (t + -(lnL v * (n : Int))) 900) ∧ (AbP (s + lnL v * (n : Int)) 900 ∧ AbP (t + lnH v * (n : Int)) 900) ∧ AbP (lnL v * (n : Int)) 820 ∧ AbP (lnH v * (n : Int)) 820:=by
 obtain ⟨z1, z2⟩:=ln_size15 (v:=v) (by omega)
 have a1:=abp_zl z1 (j:=800) (by omega)
 have a2:=abp_zl z2 (j:=800) (by omega)
 have hb : AbP (n : Int) 12:=by
  have e : (2 : Nat) ^ 12 = 4096:=by decide
  unfold AbP
  rw [e]
  omega
 have b1:=(a1.mul hb).up (k:=820) (by omega)
 have b2:=(a2.mul hb).up (k:=820) (by omega)
 have c1:=hs.up (k:=820) (by omega)
 have c2:=ht.up (k:=820) (by omega)
 exact ⟨⟨(c1.add b2.neg).up (by omega), (c2.add b1.neg).up (by omega)⟩, ⟨(c1.add b1).up (by omega), (c2.add b2).up (by omega)⟩, b1, b2⟩
theorem LnU.fin {v k : Nat} {s t : Int} {x : Rat} (h : LnU v s t x) (hs : AbP s 900) (ht : AbP t 900) (hj : v = k + 44) : LnB k (s / 2 ^ 44) (cdv t (2 ^ 44)) x ∧ AbP (s / 2 ^ 44) 1000 ∧ AbP (cdv t (2 ^ 44)) 1000:=
 ⟨h.out hj, (hs.fl (pow2_pos 44)).up (by omega), (ht.cd (pow2_pos 44)).up (by omega)⟩

theorem s15at_any (m e : Int) (k : Nat) (vx : Value) (w : World) (hx : IsD w vx m e) (hm : 0 < m) (hv : Dv m e) (lm : zl m ≤ 100) (he : -9000 ≤ e ∧ e ≤ 9000) (hK : (spK m e).natAbs ≤ 3000) (hk : k ≤ 130) :
  Calls Tryz.prog 17 #[vx, .int .i64 (k : Int)] w (RetLa w (dq m e) (k + 16)):=by
 obtain ⟨A, c, rfl, _, hn⟩:=hx.form
 have L0:=(Lq.mk0 w).n hn
 obtain ⟨v, hv9⟩ : ∃ v : Nat, (k : Int) + 60 = (v : Int):=⟨k + 60, by omega⟩
 have hvb : 60 ≤ v ∧ v < 200:=by omega
 have w0 : IntKind.i64.wrap ((k : Int) + 60) = (v : Int):=by rw [IntKind.wrap_i64]; omega
 have hE:=(sp_rng (m:=m) (e:=e) (z:=100) lm)
 have g1:=fun x W h => s15split_any m e x W h hm hv (by omega) (by omega)
 have g2:=fun x W h => s13at_any m (spE m) v x W h (by omega) (by omega) (by omega)
 have hq:=sp_bd hm
 have hC:=SpC.at (dq m (spE m)) v
 obtain ⟨n1, n2, n3, n4⟩:=arg_cut v hq.1 hq.2
 obtain ⟨kk, hkk⟩:=nm9 (spK m e)
 obtain ⟨E, hEe⟩:=nm9 (spE m)
 obtain ⟨Cc, hCe⟩:=nm9 (cutQ (dq m (spE m)) (v : Int))
 obtain ⟨Dd, hDe⟩:=nm9 (-(cutQ (-(dq m (spE m))) (v : Int)))
 rw [hCe] at n1 n3 n4 hC g2
 rw [hDe] at n2 n3 n4 hC g2
 have h64 : (64 : Int) ≤ 2 ^ v:=by
  have : (2 : Nat) ^ 6 ≤ 2 ^ v:=Nat.pow_le_pow_right (by omega) (by omega)
  exact_mod_cast this
 have sP : AbP (2 ^ v) v:=by unfold AbP; rw [show ((2 : Int) ^ v).natAbs = 2 ^ v from Int.natAbs_pow 2 v]; exact Nat.le_refl _
 have pn : ((2 : Int) ^ v).natAbs = 2 ^ v:=Int.natAbs_pow 2 v
 have sZ : ∀ x : Int, x.natAbs ≤ 4 * (2 : Int) ^ v → zl x ≤ 8:=fun x hx => by
  have e4 : (2 : Nat) ^ (v + 2) = 4 * 2 ^ v:=by rw [Nat.pow_add, Nat.mul_comm]
  have : AbP x (v + 2):=by unfold AbP; rw [e4]; omega
  have:=this.zl
  omega
 have g3:=fun W => s13of_any 1 v W (by omega) (by omega) (by omega)
 rw [Int.one_mul] at g3
 obtain ⟨o, ho⟩ : ∃ o : Int, 0 = o:=⟨_, rfl⟩
 have g8:=fun W => (s13of_any 0 v W (by omega) (by omega) (by omega)).mono (fun e w' h => (show RetSp W o o e w' by rw [Int.zero_mul, ho] at h; exact h))
 have g9:=fun W => s13ln_any v W (by omega)
 have zC:=sZ Cc (by omega)
 have zD:=sZ Dd (by omega)
 have zP:=sZ (2 ^ v) (by omega)
 have g4:=fun x y W h j => s13sub_any Cc Dd (2 ^ v) (2 ^ v) x y W h j (by omega) (by omega) (by omega) (by omega)
 have g5:=fun x y W h j => s13add_any Cc Dd (2 ^ v) (2 ^ v) x y W h j (by omega) (by omega) (by omega) (by omega)
 rw [show Cc + -2 ^ v = Cc - 2 ^ v from rfl, show Dd + -2 ^ v = Dd - 2 ^ v from rfl] at g4
 have g6:=fun x y W h j => s13div_any (Cc - 2 ^ v) (Dd - 2 ^ v) (Cc + 2 ^ v) (Dd + 2 ^ v) v x y W h j (by have:=sZ (Cc - 2 ^ v) (by omega); omega) (by have:=sZ (Dd - 2 ^ v) (by omega); omega) (by have:=sZ (Cc + 2 ^ v) (by omega); omega) (by have:=sZ (Dd + 2 ^ v) (by omega); omega) (by omega) (by omega) (by omega) (by omega)
 have aw:=arg_wide h64 n1 n2 n3 n4
 have hz:=(hC.add (SpC.of 1 v).neg).div (hC.add (SpC.of 1 v)) (by rw [Int.one_mul]; omega)
 rw [Int.one_mul, show ((1 : Int) : Rat) = 1 from rfl, ← Rat.sub_eq_add_neg, show Cc + -2 ^ v = Cc - 2 ^ v from rfl, show Dd + -2 ^ v = Dd - 2 ^ v from rfl] at hz
 obtain ⟨z, hz9⟩:=nm9 ((dq m (spE m) - 1) / (dq m (spE m) + 1))
 obtain ⟨z0, hz0⟩:=nm9 (mn4 ((Cc - 2 ^ v) * 2 ^ v / (Cc + 2 ^ v)) (cdv ((Dd - 2 ^ v) * 2 ^ v) (Cc + 2 ^ v)) ((Cc - 2 ^ v) * 2 ^ v / (Dd + 2 ^ v)) (cdv ((Dd - 2 ^ v) * 2 ^ v) (Dd + 2 ^ v)))
 obtain ⟨z1, hz1⟩:=nm9 (mx4 ((Cc - 2 ^ v) * 2 ^ v / (Cc + 2 ^ v)) (cdv ((Dd - 2 ^ v) * 2 ^ v) (Cc + 2 ^ v)) ((Cc - 2 ^ v) * 2 ^ v / (Dd + 2 ^ v)) (cdv ((Dd - 2 ^ v) * 2 ^ v) (Dd + 2 ^ v)))
 rw [hz9] at hz
 rw [hz0, hz1] at hz aw g6
 have r0 : RfJ v 0 v z z0 z1 o o:=by
  have:=RfJ.first (by omega) hz aw
  rwa [ho] at this
 have wq:=sq_wide (by omega) aw
 have hs:=hz.mul hz
 have g7:=fun x y W h j => s13mul_any z0 z1 z0 z1 v x y W h j (by have:=r0.sizes.1.zl; omega) (by have:=r0.sizes.2.1.zl; omega) (by have:=r0.sizes.1.zl; omega) (by have:=r0.sizes.2.1.zl; omega) (by omega)
 rw [show mn4 (z0 * z0) (z0 * z1) (z1 * z0) (z1 * z1) / 2 ^ v = msL v z0 z1 z0 z1 from rfl, show cdv (mx4 (z0 * z0) (z0 * z1) (z1 * z0) (z1 * z1)) (2 ^ v) = msH v z0 z1 z0 z1 from rfl] at hs
 have g7 : ∀ x y W, IsS W x z0 z1 → IsS W y z0 z1 → Calls Tryz.prog 69 #[x, y, .int .i64 (v : Int)] W (RetSp W (msL v z0 z1 z0 z1) (msH v z0 z1 z0 z1)):=fun x y W h j => g7 x y W h j
 obtain ⟨s0, hs0⟩:=nm9 (msL v z0 z1 z0 z1)
 obtain ⟨s1, hs1⟩:=nm9 (msH v z0 z1 z0 z1)
 rw [hs0, hs1] at hs wq g7
 have hfin:=fun n f a b p q (h : RfJ v n f z a b p q) => RfJ.end9 (m:=m) (by rw [hz9]; exact h) hm
 have HF:=Hd9 hfin
 have HS:=Hd9 (And.intro hs wq)
 have HR0:=Hd9 r0
 have zs0 : zl s0 ≤ 10:=by
  have h16 : (2 : Int) ^ v / 16 ≤ 2 ^ v:=by omega
  have:=wq.1
  exact Nat.le_trans (sZ s0 (by omega)) (by omega)
 have zs1 : zl s1 ≤ 10:=by
  have h16 : (2 : Int) ^ v / 16 ≤ 2 ^ v:=by omega
  have:=wq.2
  exact Nat.le_trans (sZ s1 (by omega)) (by omega)
 have HZ:=Hd9 (And.intro zs0 zs1)
 have HK:=Hd9 (And.intro hkk hm)
 have HV:=Hd9 hvb
 have HK2:=Hd9 (And.intro hv9 (And.intro hK hk))
 rw [hkk, hEe] at g1
 rw [hEe] at g2
 obtain ⟨P, hP⟩:=nm9 ((2 : Int) ^ v)
 rw [hP] at g3 g4 g5 g6
 obtain ⟨X0, hX0⟩:=nm9 (Cc - P)
 obtain ⟨X1, hX1⟩:=nm9 (Dd - P)
 obtain ⟨Y0, hY0⟩:=nm9 (Cc + P)
 obtain ⟨Y1, hY1⟩:=nm9 (Dd + P)
 rw [hX0, hX1] at g4 g6
 rw [hY0, hY1] at g5 g6
 clear ho hX0 hX1 hY0 hY1 hP zs0 zs1 hs wq r0 hfin hs0 hs1 hz hz0 hz1 hz9 aw sZ pn sP h64 zC zD zP n1 n2 n3 n4 hC hq hE hCe hDe hEe hkk hx hn hm hv lm he hK hk hvb hv9
 have G1:=Hd9 g1
 have G2:=Hd9 g2
 have G3:=Hd9 g3
 have G4:=Hd9 g4
 have G5:=Hd9 g5
 have G6:=Hd9 g6
 have G7:=Hd9 g7
 have G8:=Hd9 g8
 have G9:=Hd9 g9
 clear g1 g2 g3 g4 g5 g6 g7 g8 g9
 go_enter Tryz.func17, Tryz.ntmps17
 have L:=((L0.varD (w.heap.size) (by simp) (ng m) A (zl m) c e).varI (w.heap.size + 1) (by simp) false none 0 0 0 false none 0 0 0)
 obtain ⟨c10,c11,c12⟩:=L.tl.b0.a3
 (try go_wp2_with fail)
 refine (G1.out _ _ (isD_n (m:=m) (e:=e) (s:=.slice A (zl m) c) (L.getN (by simp)))).mono ?_
 rintro e w1 ⟨v9, rfl, id, be⟩
 clear c10 c11 c12
 obtain ⟨A1, c1, rfl, _, in9⟩:=id.form
 replace L:=(L.step be).n in9
 clear be id in9
 have hl9:=L.b0.lt
 replace L:=L.varD w1.heap.size rfl (ng m) A1 (zl m) c1 E
 obtain ⟨c00,c01,c02⟩:=L.b0.a3
 (try go_wp2_with fail)
 clear c00 c01 c02
 obtain ⟨gm, hgm⟩:=nm9 (w1.heap.size)
 rw [hgm] at L hl9 ⊢
 clear hgm
 have hl_gm:=hl9
 clear hl9
 refine (G2.out _ _ (isD_n (m:=m) (e:=E) (s:=.slice A1 (zl m) c1) (L.getN (by simp)))).mono ?_
 rintro e w2 ⟨vv, rfl, iq, be⟩
 obtain ⟨A2, c2, B2, d2, rfl, ia, ib⟩:=iq.form
 replace L:=((L.step be).n ib).n ia
 clear be iq ia ib
 have hl9:=L.b0.lt
 replace L:=L.varS w2.heap.size rfl (ng Cc) A2 (zl Cc) c2 (ng Dd) B2 (zl Dd) d2
 obtain ⟨c00,c01,c02,c03⟩:=L.b0.a4
 (try go_wp2_with fail)
 clear c00 c01 c02 c03
 obtain ⟨gx, hgx⟩:=nm9 (w2.heap.size)
 rw [hgx] at L hl9 ⊢
 clear hgx
 have hl_gx:=hl9
 clear hl9
 obtain ⟨V, hV, L9⟩:=L.name
 rw [hV]
 clear hV L
 have L:=L9
 clear L9
 have Q0:=Hd9 (fun Z (hZ : Below V.heap.size V Z) => (L.b0.mono hZ).c40)
 have Q1:=Hd9 (fun Z (hZ : Below V.heap.size V Z) => (L.b0.mono hZ).c41)
 have Q2:=Hd9 (fun Z (hZ : Below V.heap.size V Z) => (L.b0.mono hZ).c42)
 have Q3:=Hd9 (fun Z (hZ : Below V.heap.size V Z) => (L.b0.mono hZ).c43)
 have hb0:=L.b0.lt
 have D0 : Dq V V [(.slice A2 (zl Cc) c2, (Cc : Int).natAbs), (.slice B2 (zl Dd) d2, (Dd : Int).natAbs)] [] [] []:=⟨(((Lq.mk0 V).n (L.getN (v:=.slice B2 (zl Dd) d2) (x:=(Dd : Int).natAbs) (by simp))).n (L.getN (v:=.slice A2 (zl Cc) c2) (x:=(Cc : Int).natAbs) (by simp))), List.nodup_nil, fun p hp => by cases hp⟩
 have D:=D0.drew
 have hVw:=L.below.size
 have LL:=Hd9 L
 clear L
 obtain ⟨K, hK⟩:=nm9 (V.heap.size)
 have hz0 : K ≤ V.heap.size:=by omega
 have hc0 : gx < K:=by omega
 go_cut [10] from 27 to 37 (fun s10 wx => Made1S V z0 z1 s10 wx)
 case first =>
  go_region_held3 (fun w' => w'.cell? ⟨gx, 0, none⟩ = some (.bool (ng Cc)) ∧ w'.cell? ⟨gx, 1, none⟩ = some (.slice A2 (zl Cc) c2) ∧ w'.cell? ⟨gx, 2, none⟩ = some (.bool (ng Dd)) ∧ w'.cell? ⟨gx, 3, none⟩ = some (.slice B2 (zl Dd) d2)) (((try dsimp only); refine keep4 Q0.out Q1.out Q2.out Q3.out ?_; (repeat (first | (with_reducible exact D.lq.below) | (with_reducible exact D0.lq.below) | (with_reducible refine Below.drew ?_) | (with_reducible refine bl_alloc _ ?_) | (with_reducible refine bl_set _ ?_ (by omega)))))) (first | (go_at_call 67; ((with_reducible apply calls_sync2); (repeat (first | (with_reducible exact D) | (with_reducible exact D0) | (with_reducible apply Dq.drew) | (with_reducible apply Dq.boxS))); intro D2; replace D:=D2; clear D2; (try simp only [alloc_sz15, drew_sz15, hK] at D)); (with_reducible refine (G3.out _).mono ?_); rintro e9 wh ⟨vh, rfl, iq, be⟩; obtain ⟨A3, c3, B3, d3, rfl, ia, ib⟩:=iq.form; have hs9:=be.size; (try simp only [alloc_sz15, drew_sz15, hK] at hs9); replace D:=((D.step be).n ib).n ia; clear iq ia ib be; (try (have vb : Var _ _ 79 _:=D.lq.b0; obtain ⟨q01,q02,q03,q04⟩:=vb.a4; obtain ⟨q05,q06,q07,q08⟩:=vb.f4; have q09:=vb.lt; clear vb))) | (go_at_call 66; ((with_reducible apply calls_sync2); (repeat (first | (with_reducible exact D) | (with_reducible exact D0) | (with_reducible apply Dq.drew) | (with_reducible apply Dq.boxS))); intro D2; replace D:=D2; clear D2; (try simp only [alloc_sz15, drew_sz15, hK] at D)); (with_reducible refine (G4.out _ _ _ ?_ ?_).mono ?_); (· ((with_reducible refine isS_n (D.getN ?_) (D.getN ?_)) <;> (repeat (first | (with_reducible exact mS) | apply mT)); done)); (· ((with_reducible refine isS_n (D.getN ?_) (D.getN ?_)) <;> (repeat (first | (with_reducible exact mS) | apply mT)); done)); rintro e9 wh ⟨vh, rfl, iq, be⟩; obtain ⟨A4, c4, B4, d4, rfl, ia, ib⟩:=iq.form; have hs9:=be.size; (try simp only [alloc_sz15, drew_sz15, hK] at hs9); replace D:=((D.step be).n ib).n ia; clear iq ia ib be; (try (have vb : Var _ _ 79 _:=D.lq.b0; obtain ⟨q01,q02,q03,q04⟩:=vb.a4; obtain ⟨q05,q06,q07,q08⟩:=vb.f4; have q09:=vb.lt; clear vb))) | (go_at_call 68; ((with_reducible apply calls_sync2); (repeat (first | (with_reducible exact D) | (with_reducible exact D0) | (with_reducible apply Dq.drew) | (with_reducible apply Dq.boxS))); intro D2; replace D:=D2; clear D2; (try simp only [alloc_sz15, drew_sz15, hK] at D)); (with_reducible refine (G5.out _ _ _ ?_ ?_).mono ?_); (· ((with_reducible refine isS_n (D.getN ?_) (D.getN ?_)) <;> (repeat (first | (with_reducible exact mS) | apply mT)); done)); (· ((with_reducible refine isS_n (D.getN ?_) (D.getN ?_)) <;> (repeat (first | (with_reducible exact mS) | apply mT)); done)); rintro e9 wh ⟨vh, rfl, iq, be⟩; obtain ⟨A5, c5, B5, d5, rfl, ia, ib⟩:=iq.form; have hs9:=be.size; (try simp only [alloc_sz15, drew_sz15, hK] at hs9); replace D:=((D.step be).n ib).n ia; clear iq ia ib be; (try (have vb : Var _ _ 79 _:=D.lq.b0; obtain ⟨q01,q02,q03,q04⟩:=vb.a4; obtain ⟨q05,q06,q07,q08⟩:=vb.f4; have q09:=vb.lt; clear vb))) | (go_at_call 65; ((with_reducible apply calls_sync2); (repeat (first | (with_reducible exact D) | (with_reducible exact D0) | (with_reducible apply Dq.drew) | (with_reducible apply Dq.boxS))); intro D2; replace D:=D2; clear D2; (try simp only [alloc_sz15, drew_sz15, hK] at D)); (with_reducible refine (G6.out _ _ _ ?_ ?_).mono ?_); (· ((with_reducible refine isS_n (D.getN ?_) (D.getN ?_)) <;> (repeat (first | (with_reducible exact mS) | apply mT)); done)); (· ((with_reducible refine isS_n (D.getN ?_) (D.getN ?_)) <;> (repeat (first | (with_reducible exact mS) | apply mT)); done)); rintro e9 wh ⟨vh, rfl, iq, be⟩; obtain ⟨A6, c6, B6, d6, rfl, ia, ib⟩:=iq.form; have hs9:=be.size; (try simp only [alloc_sz15, drew_sz15, hK] at hs9); replace D:=((D.step be).n ib).n ia; clear iq ia ib be; (try (have vb : Var _ _ 79 _:=D.lq.b0; obtain ⟨q01,q02,q03,q04⟩:=vb.a4; obtain ⟨q05,q06,q07,q08⟩:=vb.f4; have q09:=vb.lt; clear vb))))
  all_goals
   go_wp2_with fail
   go_meet
   first
   | ((with_reducible refine made1s_a D ?_ ?_) <;> (repeat (first | (with_reducible exact mS) | apply mT)))
   | ((with_reducible refine made1s_b D ?_ ?_) <;> (repeat (first | (with_reducible exact mS) | apply mT)))
 case rest =>
  obtain ⟨gz, AZ, cZ, BZ, dZ, rfl, hgz, bw, hv1, iq1, iq2⟩:=hcut
  have L9:=(((LL.out.step bw).n iq2).n iq1).b hv1
  have L:=L9.subx (ns':=[(.slice AZ (zl z0) cZ, z0.natAbs), (.slice BZ (zl z1) dZ, z1.natAbs)]) (bs':=[(gz, 79, #[.bool (ng z0), .slice AZ (zl z0) cZ, .bool (ng z1), .slice BZ (zl z1) dZ]), (w.heap.size + 1, 28, #[.bool false, .slice none 0 0, .int .i64 0, .bool false, .slice none 0 0, .int .i64 0])]) (by simp) (by simp)
  clear D D0 LL L9 hv1 iq1 iq2 bw hVw hz0 hK hc0 Q0 Q1 Q2 Q3 G1 G2 G3 G4 G5 G6
  have hrz : w.heap.size + 1 < gz:=by omega
  generalize wc = wd1 at *
  obtain ⟨c00,c01,c02,c03⟩:=L.b0.a4
  (try go_wp2_with fail)
  refine (G7.out _ _ _ (isS_n (a:=z0) (b:=z1) (s:=.slice AZ (zl z0) cZ) (t:=.slice BZ (zl z1) dZ) (L.getN (by simp)) (L.getN (by simp))) (isS_n (a:=z0) (b:=z1) (s:=.slice AZ (zl z0) cZ) (t:=.slice BZ (zl z1) dZ) (L.getN (by simp)) (L.getN (by simp)))).mono ?_
  rintro e w31 ⟨vv, rfl, iq, be⟩
  clear c00 c01 c02 c03
  obtain ⟨AS, cS, BS, dS, rfl, ia, ib⟩:=iq.form
  replace L:=((L.step be).n ib).n ia
  clear be iq ia ib
  have hl9:=L.b0.lt
  replace L:=L.varS w31.heap.size rfl (ng s0) AS (zl s0) cS (ng s1) BS (zl s1) dS
  obtain ⟨c00,c01,c02,c03⟩:=L.b0.a4
  obtain ⟨c10,c11,c12,c13⟩:=L.tl.b0.a4
  (try go_wp2_with fail)
  clear c00 c01 c02 c03 c10 c11 c12 c13
  obtain ⟨gs, hgs⟩:=nm9 (w31.heap.size)
  rw [hgs] at L hl9 ⊢
  clear hgs
  have hl_gs:=hl9
  clear hl9
  obtain ⟨V2, hV, L9⟩:=L.name
  rw [hV]
  clear hV L
  have L:=L9
  clear L9
  have Q0:=Hd9 (fun Z (hZ : Below V2.heap.size V2 Z) => (L.tl.b0.mono hZ).c40)
  have Q1:=Hd9 (fun Z (hZ : Below V2.heap.size V2 Z) => (L.tl.b0.mono hZ).c41)
  have Q2:=Hd9 (fun Z (hZ : Below V2.heap.size V2 Z) => (L.tl.b0.mono hZ).c42)
  have Q3:=Hd9 (fun Z (hZ : Below V2.heap.size V2 Z) => (L.tl.b0.mono hZ).c43)
  have hb0:=L.tl.b0.lt
  have D0 : Dq V2 V2 [(.slice AZ (zl z0) cZ, (z0 : Int).natAbs), (.slice BZ (zl z1) dZ, (z1 : Int).natAbs)] [] [] []:=⟨(((Lq.mk0 V2).n (L.getN (v:=.slice BZ (zl z1) dZ) (x:=(z1 : Int).natAbs) (by simp))).n (L.getN (v:=.slice AZ (zl z0) cZ) (x:=(z0 : Int).natAbs) (by simp))), List.nodup_nil, fun p hp => by cases hp⟩
  have D:=D0.drew
  have hVw:=L.below.size
  have LL:=Hd9 L
  clear L
  obtain ⟨K, hK⟩:=nm9 (V2.heap.size)
  have hz0 : K ≤ V2.heap.size:=by omega
  have hc0 : gz < K:=by omega
  go_cut [12, 13] from 41 to 44 (fun s12 s13 wx => Made2S V2 z0 z1 o o s12 s13 wx)
  case first =>
   go_region_held3 (fun w' => w'.cell? ⟨gz, 0, none⟩ = some (.bool (ng z0)) ∧ w'.cell? ⟨gz, 1, none⟩ = some (.slice AZ (zl z0) cZ) ∧ w'.cell? ⟨gz, 2, none⟩ = some (.bool (ng z1)) ∧ w'.cell? ⟨gz, 3, none⟩ = some (.slice BZ (zl z1) dZ)) (((try dsimp only); refine keep4 Q0.out Q1.out Q2.out Q3.out ?_; (repeat (first | (with_reducible exact D.lq.below) | (with_reducible exact D0.lq.below) | (with_reducible refine Below.drew ?_) | (with_reducible refine bl_alloc _ ?_) | (with_reducible refine bl_set _ ?_ (by omega)))))) (first | (go_at_call 67; ((with_reducible apply calls_sync2); (repeat (first | (with_reducible exact D) | (with_reducible exact D0) | (with_reducible apply Dq.drew) | (with_reducible apply Dq.boxS))); intro D2; replace D:=D2; clear D2; (try simp only [alloc_sz15, drew_sz15, hK] at D)); (with_reducible refine (G8.out _).mono ?_); rintro e9 wh ⟨vh, rfl, iq, be⟩; obtain ⟨A3, c3, B3, d3, rfl, ia, ib⟩:=iq.form; have hs9:=be.size; (try simp only [alloc_sz15, drew_sz15, hK] at hs9); replace D:=((D.step be).n ib).n ia; clear iq ia ib be; (try (have vb : Var _ _ 79 _:=D.lq.b0; obtain ⟨q01,q02,q03,q04⟩:=vb.a4; obtain ⟨q05,q06,q07,q08⟩:=vb.f4; have q09:=vb.lt; clear vb)); (try (have vb : Var _ _ 79 _:=D.lq.tl.b0; obtain ⟨q11,q12,q13,q14⟩:=vb.a4; obtain ⟨q15,q16,q17,q18⟩:=vb.f4; have q19:=vb.lt; clear vb))) | fail)
   all_goals
    go_wp2_with fail
    go_meet
    first
    | ((with_reducible apply made2s_a D) <;> (repeat (first | (with_reducible exact mS) | apply mT)))
    | ((with_reducible apply made2s_b D) <;> (repeat (first | (with_reducible exact mS) | apply mT)))
    | ((with_reducible apply made2s_c D) <;> (repeat (first | (with_reducible exact mS) | apply mT)))
    | ((with_reducible apply made2s_d D) <;> (repeat (first | (with_reducible exact mS) | apply mT)))
    | ((with_reducible apply made2s_e D) <;> (first | ((repeat (first | (with_reducible exact mS) | apply mT)); done) | omega))
  case rest =>
   obtain ⟨gt, gu, A1, c1, B1, d1, A2, c2, B2, d2, rfl, rfl, hp1, hp2, hpq, bw, vt, vu, ⟨i1, i2⟩, i3, i4⟩:=hcut
   have is0:=LL.out.getN (v:=.slice AS (zl s0) cS) (x:=s0.natAbs) (by simp)
   have is1:=LL.out.getN (v:=.slice BS (zl s1) dS) (x:=s1.natAbs) (by simp)
   have hgs:=LL.out.b0.lt
   have L:=((((((((((Lq.mk0 V2).n is1).n is0).b LL.out.b0).step bw).n i4).n i3).n i2).n i1).b vu).b vt
   clear D D0 vt vu i1 i2 i3 i4 is0 is1 bw hVw hz0 hK hc0 Q0 Q1 Q2 Q3 G7 G8
   generalize wc = wd2 at *
   (try go_wp2_with fail)
   go_loopw [14] (fun i wr => ∃ (g n : Nat) (a b p q : Int) (A1 B1 A2 B2 : Option Addr) (c1 d1 c2 d2 : Nat), i = .int .i64 (n : Int) ∧ Lq V2 wr [(.slice A1 (zl a) c1, (a).natAbs), (.slice B1 (zl b) d1, (b).natAbs), (.slice A2 (zl p) c2, (p).natAbs), (.slice B2 (zl q) d2, (q).natAbs), (.slice AS (zl s0) cS, (s0).natAbs), (.slice BS (zl s1) dS, (s1).natAbs)] [] [] [(gt, 79, #[.bool (ng a), .slice A1 (zl a) c1, .bool (ng b), .slice B1 (zl b) d1]), (gu, 79, #[.bool (ng p), .slice A2 (zl p) c2, .bool (ng q), .slice B2 (zl q) d2]), (gs, 79, #[.bool (ng s0), .slice AS (zl s0) cS, .bool (ng s1), .slice BS (zl s1) dS])] ∧ Hid (RfJ v n g z a b p q)) (fun i _ => v + 4 - (intOf i).toNat)
   case atStart => exact ⟨v, 0, z0, z1, o, o, A1, B1, A2, B2, c1, d1, c2, d2, by go_num, L.subx (by simp) (by simp), HR0⟩
   case round =>
    clear L HR0
    obtain ⟨g, n, a, b, p, q, A1, B1, A2, B2, c1, d1, c2, d2, rfl, L, HR⟩:=hrel
    obtain ⟨e1, e2, e3, e4⟩:=HR.out.sizes
    have hv9:=HV.out
    have sa:=e1.zl
    have sb:=e2.zl
    have sp:=e3.zl
    have sq:=e4.zl
    have hnf:=HR.out.nf
    have tn0:=fun x W h => s13tiny_any a b x W h (by omega) (by omega)
    have hl1:=L.b0.lt
    have hl2:=L.tl.b0.lt
    clear e1 e2 e3 e4
    cases ht : tnB a b
    ·rw [ht] at tn0
     have TN:=Hd9 tn0
     obtain ⟨g, rfl, r2⟩:=HR.out.step HS.out.1 HS.out.2 ht
     have hab : a ≤ b:=by
      obtain ⟨M, l, _⟩:=HR.out.ln
      exact l.tm.le
     obtain ⟨e1, e2, e3, e4⟩:=r2.sizes
     have hq0 : (0 : Int) < 2 * (n : Int) + 1:=by omega
     have y1:=zl_floor a hq0
     have y2:=zl_cdv b hq0
     have zz:=HZ.out
     have o1:=fun x W h => s13over_any a b (2 * (n : Int) + 1) x W h (by omega) (by omega) hab (by omega) (by omega)
     have o2 : ∀ x y W, IsS W x a b → IsS W y s0 s1 → Calls Tryz.prog 69 #[x, y, .int .i64 (v : Int)] W (RetSp W (msL v a b s0 s1) (msH v a b s0 s1)):=fun x y W h j => s13mul_any a b s0 s1 v x y W h j (by omega) (by omega) (by omega) (by omega) (by omega)
     have o5:=fun x y W h j => s13add_any p q (a / (2 * (n : Int) + 1)) (cdv b (2 * (n : Int) + 1)) x y W h j (by omega) (by omega) (by omega) (by omega)
     have hkv : n ≤ v:=by omega
     obtain ⟨u, hu⟩ : ∃ u : Int, 2 * (n : Int) + 1 = u:=⟨_, rfl⟩
     have w1 : IntKind.i64.wrap (2 * (n : Int)) = 2 * (n : Int):=by rw [IntKind.wrap_i64]; omega
     have w2 : IntKind.i64.wrap (2 * (n : Int) + 1) = u:=by rw [IntKind.wrap_i64]; omega
     have w3 : IntKind.i64.wrap ((n : Int) + 1) = (n : Int) + 1:=by rw [IntKind.wrap_i64]; omega
     rw [hu] at o1 o5 r2
     obtain ⟨p5, hp5⟩:=nm9 (a / u)
     rw [hp5] at o1 o5 r2
     obtain ⟨r5, hr5⟩:=nm9 (cdv b u)
     rw [hr5] at o1 o5 r2
     obtain ⟨a4, ha4⟩:=nm9 (msL v a b s0 s1)
     rw [ha4] at o2 r2
     obtain ⟨b4, hb4⟩:=nm9 (msH v a b s0 s1)
     rw [hb4] at o2 r2
     obtain ⟨s4, hs4⟩:=nm9 (p + p5)
     rw [hs4] at o5 r2
     obtain ⟨u4, hu4⟩:=nm9 (q + r5)
     rw [hu4] at o5 r2
     have O1:=Hd9 o1
     have O2:=Hd9 o2
     have O5:=Hd9 o5
     have HR2:=Hd9 r2
     clear o1 o2 o5 tn0 hu hp5 hr5 ha4 hb4 hs4 hu4 r2 e1 e2 e3 e4 y1 y2 zz hq0 sa sb sp sq hab ht hnf hv9 HR
     obtain ⟨c00,c01,c02,c03⟩:=L.b0.a4
     go_wp2_with fail
     refine (TN.out _ _ (isS_n (a:=a) (b:=b) (s:=.slice A1 (zl a) c1) (t:=.slice B1 (zl b) d1) (L.getN (by simp)) (L.getN (by simp)))).mono ?_
     rintro e w51 ⟨rfl, be⟩
     clear c00 c01 c02 c03
     replace L:=L.step be
     clear be
     have hVs : V2.heap.size ≤ gu:=by omega
     replace L:=L.drew
     (try go_wp2_with fail)
     have LD:=L.swap
     clear L
     obtain ⟨c00,c01,c02,c03⟩:=LD.b0.a4
     obtain ⟨f00,f01,f02,f03⟩:=LD.b0.f4
     obtain ⟨c10,c11,c12,c13⟩:=LD.tl.b0.a4
     go_cut [55] from 49 to 55 (fun s9 wx => ∃ A6 c6 B6 d6, Lq V2 wx [(.slice A6 (zl s4) c6, s4.natAbs), (.slice B6 (zl u4) d6, u4.natAbs), (.slice A1 (zl a) c1, a.natAbs), (.slice B1 (zl b) d1, b.natAbs), (.slice AS (zl s0) cS, s0.natAbs), (.slice BS (zl s1) dS, s1.natAbs)] [] [] [(gu, 79, #[.bool (ng s4), .slice A6 (zl s4) c6, .bool (ng u4), .slice B6 (zl u4) d6]), (gt, 79, #[.bool (ng a), .slice A1 (zl a) c1, .bool (ng b), .slice B1 (zl b) d1]), (gs, 79, #[.bool (ng s0), .slice AS (zl s0) cS, .bool (ng s1), .slice BS (zl s1) dS])])
     case first =>
      go_region_with (first | (go_at_call 71; (with_reducible refine (O1.out _ _ ?_).mono ?_); (· (refine isS_n (LD.getN ?_) (LD.getN ?_) <;> (repeat (first | (with_reducible exact mS) | apply mT)))); rintro e9 wh ⟨vh, rfl, iq, be⟩; obtain ⟨A5, c5, B5, d5, rfl, ia, ib⟩:=iq.form; replace LD:=((LD.step be).n ib).n ia; clear be iq ia ib; (try (obtain ⟨r0,r1,r2,r3⟩:=LD.b0.a4; obtain ⟨t0,t1,t2,t3⟩:=LD.b0.f4))) | (go_at_call 68; (with_reducible refine (O5.out _ _ _ ?_ ?_).mono ?_); (· (refine isS_n (LD.getN ?_) (LD.getN ?_) <;> (repeat (first | (with_reducible exact mS) | apply mT)))); (· (refine isS_n (LD.getN ?_) (LD.getN ?_) <;> (repeat (first | (with_reducible exact mS) | apply mT)))); rintro e9 wh ⟨vh, rfl, iq, be⟩; obtain ⟨A6, c6, B6, d6, rfl, ia, ib⟩:=iq.form; replace LD:=((LD.step be).n ib).n ia; clear be iq ia ib; (try (obtain ⟨r0,r1,r2,r3⟩:=LD.b0.a4; obtain ⟨t0,t1,t2,t3⟩:=LD.b0.f4))))
      all_goals
       have LP:=LD.putS (by omega) (by first | (simp; done) | (simp; omega)) (ng s4) A6 (zl s4) c6 (ng u4) B6 (zl u4) d6
       unfold put4 at LP
       go_wp2_with fail
       go_meet
       exact ⟨A6, c6, B6, d6, LP.subx (by simp) (by simp)⟩
     case rest =>
      obtain ⟨A6, c6, B6, d6, L⟩:=hcut
      generalize wc = wd3 at *
      clear LD O1 O5
      obtain ⟨c10,c11,c12,c13⟩:=L.tl.b0.a4
      obtain ⟨c20,c21,c22,c23⟩:=L.tl.tl.b0.a4
      (try go_wp2_with fail)
      refine (O2.out _ _ _ (isS_n (a:=a) (b:=b) (s:=.slice A1 (zl a) c1) (t:=.slice B1 (zl b) d1) (L.getN (by simp)) (L.getN (by simp))) (isS_n (a:=s0) (b:=s1) (s:=.slice AS (zl s0) cS) (t:=.slice BS (zl s1) dS) (L.getN (by simp)) (L.getN (by simp)))).mono ?_
      rintro e w71 ⟨vv, rfl, iq, be⟩
      clear c10 c11 c12 c13 c20 c21 c22 c23
      obtain ⟨A8, c8, B8, d8, rfl, ia, ib⟩:=iq.form
      replace L:=((L.step be).n ib).n ia
      clear be iq ia ib
      obtain ⟨c10,c11,c12,c13⟩:=L.tl.b0.a4
      obtain ⟨f10,f11,f12,f13⟩:=L.tl.b0.f4
      replace L:=L.swap.putS (by omega) (by first | (simp; done) | (simp; omega)) (ng a4) A8 (zl a4) c8 (ng b4) B8 (zl b4) d8
      unfold put4 at L
      go_wp2_with fail
      go_roundw
      case rel => exact ⟨g, n + 1, a4, b4, s4, u4, A8, B8, A6, B6, c8, d8, c6, d6, by go_num, L.subx (by simp) (by simp), HR2⟩
      case measure => simp [intOf]; omega
    ·rw [ht] at tn0
     have TN:=Hd9 tn0
     have hfin:=HF.out _ _ _ _ _ _ HR.out ht
     obtain ⟨z1, z2⟩:=end_sizes HR.out
     have o1:=fun x W h => s13wide_any p q 3 x W h (by omega) (by omega) (by omega) (by omega)
     have m1:=zl_sub p 3
     have m2:=zl_add q 3
     have m3 : zl 3 ≤ 1:=len_le1 (by omega)
     have o2:=fun x W h => s13times_any (p - 3) (q + 3) 2 x W h (by omega) (by omega) (by omega) (by omega)
     obtain ⟨s4, hs4⟩:=nm9 (p - 3)
     obtain ⟨u4, hu4⟩:=nm9 (q + 3)
     rw [hs4] at o1 o2 hfin z1
     rw [hu4] at o1 o2 hfin z2
     obtain ⟨X, hX⟩:=nm9 (s4 * 2)
     obtain ⟨Y, hY⟩:=nm9 (u4 * 2)
     rw [hX] at o2 hfin z1
     rw [hY] at o2 hfin z2
     have O1:=Hd9 o1
     have O2:=Hd9 o2
     have HE:=Hd9 (And.intro hfin (And.intro z1 z2))
     clear o1 o2 tn0 HR sa sb sp sq ht hnf hv9 m1 m2 m3 hs4 hu4 hX hY hfin z1 z2
     obtain ⟨c00,c01,c02,c03⟩:=L.b0.a4
     go_wp2_with fail
     refine (TN.out _ _ (isS_n (a:=a) (b:=b) (s:=.slice A1 (zl a) c1) (t:=.slice B1 (zl b) d1) (L.getN (by simp)) (L.getN (by simp)))).mono ?_
     rintro e w91 ⟨rfl, be⟩
     clear c00 c01 c02 c03
     replace L:=L.step be
     clear be
     have hvs:=L.tl.b0
     have ip:=L.getN (v:=.slice A2 (zl p) c2) (x:=p.natAbs) (by simp)
     have iq:=L.getN (v:=.slice B2 (zl q) d2) (x:=q.natAbs) (by simp)
     have L9:=(((LL.out.step L.below).n iq).n ip).b hvs
     have L:=L9.subx (ns':=[(.slice A2 (zl p) c2, p.natAbs), (.slice B2 (zl q) d2, q.natAbs)]) (bs':=[(gu, 79, #[.bool (ng p), .slice A2 (zl p) c2, .bool (ng q), .slice B2 (zl q) d2]), (w.heap.size + 1, 28, #[.bool false, .slice none 0 0, .int .i64 0, .bool false, .slice none 0 0, .int .i64 0])]) (by simp) (by simp)
     have n9 : w.heap.size + 1 ≠ gu:=by omega
     clear hvs ip iq L9 LL TN
     obtain ⟨c00,c01,c02,c03⟩:=L.b0.a4
     go_wp2_with fail
     refine (O1.out _ _ (isS_n (a:=p) (b:=q) (s:=.slice A2 (zl p) c2) (t:=.slice B2 (zl q) d2) (L.getN (by simp)) (L.getN (by simp)))).mono ?_
     rintro e w92 ⟨vv, rfl, iq, be⟩
     clear c00 c01 c02 c03
     obtain ⟨A9, c9, B9, d9, rfl, ia, ib⟩:=iq.form
     replace L:=((L.step be).n ib).n ia
     clear be iq ia ib
     go_wp2_with fail
     refine (O2.out _ _ (isS_n (a:=s4) (b:=u4) (s:=.slice A9 (zl s4) c9) (t:=.slice B9 (zl u4) d9) (L.getN (by simp)) (L.getN (by simp)))).mono ?_
     rintro e w93 ⟨vv, rfl, iq, be⟩
     obtain ⟨A10, c10, B10, d10, rfl, ia, ib⟩:=iq.form
     replace L:=((L.step be).n ib).n ia
     clear be iq ia ib
     obtain ⟨c00,c01,c02,c03⟩:=L.b0.a4
     obtain ⟨f00,f01,f02,f03⟩:=L.b0.f4
     replace L:=L.putS (by omega) (by first | (simp; done) | (simp; omega)) (ng X) A10 (zl X) c10 (ng Y) B10 (zl Y) d10
     unfold put4 at L
     go_wp2_with fail
     refine (G9.out _).mono ?_
     rintro e w94 ⟨vv, rfl, iq, be⟩
     obtain ⟨AT, cT, BT, dT, rfl, ia, ib⟩:=iq.form
     replace L:=((L.step be).n ib).n ia
     clear be iq ia ib
     obtain ⟨hkk, hm⟩:=HK.out
     obtain ⟨hv9, hK, hk⟩:=HK2.out
     have hV:=HV.out
     obtain ⟨he, z1, z2⟩:=HE.out
     obtain ⟨y1, y2⟩:=ln_size15 (v:=v) (by omega)
     have hl9:=L.b0.lt
     replace L:=L.varS w94.heap.size rfl (ng (lnL v)) AT (zl (lnL v)) cT (ng (lnH v)) BT (zl (lnH v)) dT
     rcases Int.lt_trichotomy kk 0 with hc | hc | hc
     ·obtain ⟨n, hn⟩ : ∃ n : Nat, kk = -(n : Int):=⟨kk.natAbs, by omega⟩
      have hn3 : n ≤ 3000:=by omega
      have sz:=sum15 (v:=v) (by omega) z1 z2 hn3
      have hu:=he.minus (n:=n) (e:=e) hm hV.2 (hkk.trans hn)
      have zt1:=sz.2.2.1.zl
      have zt2:=sz.2.2.2.zl
      have zx:=z1.zl
      have zy:=z2.zl
      have o1:=fun x W h => s13times_any (lnL v) (lnH v) (n : Int) x W h (by omega) (by omega) (by omega) (by omega)
      have o2:=fun x y W h j => s13sub_any X Y (lnL v * (n : Int)) (lnH v * (n : Int)) x y W h j (by omega) (by omega) (by omega) (by omega)
      have hs1:=sz.1.1
      have hs2:=sz.1.2
      have w6 : IntKind.i64.wrap (-kk) = (n : Int):=by rw [IntKind.wrap_i64]; omega
      have hn0 : kk < 0:=by omega
      have hn1 : ¬ 0 < kk:=by omega
      have hn2:=hn0
      clear hn2
      have hu : LnU v (X + -(lnH v * (n : Int))) (Y + -(lnL v * (n : Int))) (dq m e):=hu
      generalize X + -(lnH v * (n : Int)) = R at *
      generalize Y + -(lnL v * (n : Int)) = S at *
      obtain ⟨U, hU⟩:=nm9 (lnL v)
      obtain ⟨T, hT⟩:=nm9 (lnH v)
      rw [hU, hT] at o1 o2 L ⊢
      obtain ⟨U2, hU2⟩:=nm9 (U * (n : Int))
      obtain ⟨T2, hT2⟩:=nm9 (T * (n : Int))
      rw [hU2, hT2] at o1 o2
      have O1:=Hd9 o1
      have O2:=Hd9 o2
      clear o1 o2 sz zt1 zt2 zx zy he z1 z2 y1 y2 hU hT hU2 hT2 HK HK2 HV HE hkk hn3 hn
      obtain ⟨c00,c01,c02,c03⟩:=L.b0.a4
      obtain ⟨c10,c11,c12,c13⟩:=L.tl.b0.a4
      (try go_wp2_with fail)
      clear c00 c01 c02 c03 c10 c11 c12 c13
      obtain ⟨g2, hg2⟩:=nm9 (w94.heap.size)
      rw [hg2] at L hl9 ⊢
      clear hg2
      have n8 : gu < g2:=hl9
      clear hl9
      replace L:=L.drew
      (try go_wp2_with fail)
      have LD:=L.swap
      clear L
      obtain ⟨c00,c01,c02,c03⟩:=LD.b0.a4
      obtain ⟨f00,f01,f02,f03⟩:=LD.b0.f4
      obtain ⟨c10,c11,c12,c13⟩:=LD.tl.b0.a4
      go_cut [72] from 67 to 72 (fun s9 wx => ∃ A7 c7 B7 d7, Lq w wx [(.slice A7 (zl R) c7, R.natAbs), (.slice B7 (zl S) d7, S.natAbs)] [] [] [(gu, 79, #[.bool (ng R), .slice A7 (zl R) c7, .bool (ng S), .slice B7 (zl S) d7]), (w.heap.size + 1, 28, #[.bool false, .slice none 0 0, .int .i64 0, .bool false, .slice none 0 0, .int .i64 0])])
      case first =>
       go_region_with (first | (go_at_call 72; (with_reducible refine (O1.out _ _ ?_).mono ?_); (· (refine isS_n (LD.getN ?_) (LD.getN ?_) <;> (repeat (first | (with_reducible exact mS) | apply mT)))); rintro e9 wh ⟨vh, rfl, iq, be⟩; obtain ⟨A5, c5, B5, d5, rfl, ia, ib⟩:=iq.form; replace LD:=((LD.step be).n ib).n ia; clear be iq ia ib; (try (obtain ⟨r0,r1,r2,r3⟩:=LD.b0.a4; obtain ⟨t0,t1,t2,t3⟩:=LD.b0.f4))) | (go_at_call 66; (with_reducible refine (O2.out _ _ _ ?_ ?_).mono ?_); (· (refine isS_n (LD.getN ?_) (LD.getN ?_) <;> (repeat (first | (with_reducible exact mS) | apply mT)))); (· (refine isS_n (LD.getN ?_) (LD.getN ?_) <;> (repeat (first | (with_reducible exact mS) | apply mT)))); rintro e9 wh ⟨vh, rfl, iq, be⟩; obtain ⟨A7, c7, B7, d7, rfl, ia, ib⟩:=iq.form; replace LD:=((LD.step be).n ib).n ia; clear be iq ia ib; (try (obtain ⟨r0,r1,r2,r3⟩:=LD.b0.a4; obtain ⟨t0,t1,t2,t3⟩:=LD.b0.f4))))
       all_goals
        have LP:=LD.putS (by omega) (by first | (simp; done) | (simp; omega)) (ng R) A7 (zl R) c7 (ng S) B7 (zl S) d7
        unfold put4 at LP
        go_wp2_with fail
        go_meet
        exact ⟨A7, c7, B7, d7, LP.subx (by simp) (by simp)⟩
      case rest =>
       obtain ⟨A7, c7, B7, d7, L⟩:=hcut
       generalize wc = wd4 at *
       clear LD O1 O2
       have hj : v = k + 16 + 44:=by omega
       obtain ⟨q1, q2, q3⟩:=hu.fin hs1 hs2 hj
       have o1:=fun x W h => s13out_any R S v (k + 16) 44 x W h (by have:=hs1.zl; omega) (by have:=hs2.zl; omega) (by omega) hj (by omega)
       have w5 : IntKind.i64.wrap ((k : Int) + 16) = ((k + 16 : Nat) : Int):=by rw [IntKind.wrap_i64]; omega
       obtain ⟨M9, hM9⟩:=nm9 (mkM (R / 2 ^ 44) (-((k + 16 : Nat) : Int)))
       obtain ⟨E9, hE9⟩:=nm9 (mkE (R / 2 ^ 44) (-((k + 16 : Nat) : Int)))
       obtain ⟨N9, hN9⟩:=nm9 (mkM (cdv S (2 ^ 44)) (-((k + 16 : Nat) : Int)))
       obtain ⟨F9, hF9⟩:=nm9 (mkE (cdv S (2 ^ 44)) (-((k + 16 : Nat) : Int)))
       rw [hM9, hE9, hN9, hF9] at o1
       have HG:=Hd9 (show ∃ a b, mkM a (-((k + 16 : Nat) : Int)) = M9 ∧ mkE a (-((k + 16 : Nat) : Int)) = E9 ∧ mkM b (-((k + 16 : Nat) : Int)) = N9 ∧ mkE b (-((k + 16 : Nat) : Int)) = F9 ∧ LnB (k + 16) a b (dq m e) ∧ AbP a 1000 ∧ AbP b 1000 from ⟨_, _, hM9, hE9, hN9, hF9, q1, q2, q3⟩)
       have O9:=Hd9 o1
       clear q1 q2 q3 o1 hM9 hE9 hN9 hF9 hj
       obtain ⟨K16, hK16⟩:=nm9 (k + 16)
       rw [hK16] at O9 w5
       obtain ⟨c00,c01,c02,c03⟩:=L.b0.a4
       (try go_wp2_with fail)
       refine (O9.out _ _ (isS_n (a:=R) (b:=S) (s:=.slice A7 (zl R) c7) (t:=.slice B7 (zl S) d7) (L.getN (by simp)) (L.getN (by simp)))).mono ?_
       rintro e w121 ⟨vv, rfl, ii, be⟩
       clear c00 c01 c02 c03
       obtain ⟨A6, c6, B6, d6, rfl, ia, ib⟩:=ii.form
       replace L:=(((L.step be).n ib).n ia).swap
       clear be ii ia ib
       obtain ⟨c00,c01,c02,c03,c04,c05⟩:=L.b0.a6
       obtain ⟨f00,f01,f02,f03,f04,f05⟩:=L.b0.f6
       go_wp2_with fail
       have LP:=L.putI (by omega) (by first | (simp; done) | (simp; omega)) (ng M9) A6 (zl M9) c6 E9 (ng N9) B6 (zl N9) d6 F9
       obtain ⟨k0,k1,k2,k3,k4,k5⟩:=LP.b0.a6
       unfold put6 at k0 k1 k2 k3 k4 k5
       exact bodyPost_ret (v:=.agg #[.bool (ng M9), .slice A6 (zl M9) c6, .int .i64 E9, .bool (ng N9), .slice B6 (zl N9) d6, .int .i64 F9]) (by simp [results, Tryz.results17, go_sem, k0, k1, k2, k3, k4, k5]) rfl (RetLa.mk HG.out ⟨_, rfl, isI_n (LP.getN (by simp)) (LP.getN (by simp)), LP.below⟩)
     ·have hn0 : ¬ kk < 0:=by omega
      have hn1 : ¬ 0 < kk:=by omega
      have hu:=he.zero (e:=e) (by omega)
      obtain ⟨hs1, hs2⟩:=And.intro (z1.up (k:=900) (by omega)) (z2.up (k:=900) (by omega))
      obtain ⟨U, hU⟩:=nm9 (lnL v)
      obtain ⟨T, hT⟩:=nm9 (lnH v)
      rw [hU, hT] at L ⊢
      clear hU hT y1 y2 z1 z2 he hkk HK HK2 HV HE
      have hj : v = k + 16 + 44:=by omega
      obtain ⟨q1, q2, q3⟩:=hu.fin hs1 hs2 hj
      have o1:=fun x W h => s13out_any X Y v (k + 16) 44 x W h (by have:=hs1.zl; omega) (by have:=hs2.zl; omega) (by omega) hj (by omega)
      have w5 : IntKind.i64.wrap ((k : Int) + 16) = ((k + 16 : Nat) : Int):=by rw [IntKind.wrap_i64]; omega
      obtain ⟨M9, hM9⟩:=nm9 (mkM (X / 2 ^ 44) (-((k + 16 : Nat) : Int)))
      obtain ⟨E9, hE9⟩:=nm9 (mkE (X / 2 ^ 44) (-((k + 16 : Nat) : Int)))
      obtain ⟨N9, hN9⟩:=nm9 (mkM (cdv Y (2 ^ 44)) (-((k + 16 : Nat) : Int)))
      obtain ⟨F9, hF9⟩:=nm9 (mkE (cdv Y (2 ^ 44)) (-((k + 16 : Nat) : Int)))
      rw [hM9, hE9, hN9, hF9] at o1
      have HG:=Hd9 (show ∃ a b, mkM a (-((k + 16 : Nat) : Int)) = M9 ∧ mkE a (-((k + 16 : Nat) : Int)) = E9 ∧ mkM b (-((k + 16 : Nat) : Int)) = N9 ∧ mkE b (-((k + 16 : Nat) : Int)) = F9 ∧ LnB (k + 16) a b (dq m e) ∧ AbP a 1000 ∧ AbP b 1000 from ⟨_, _, hM9, hE9, hN9, hF9, q1, q2, q3⟩)
      have O9:=Hd9 o1
      clear q1 q2 q3 o1 hM9 hE9 hN9 hF9 hj
      obtain ⟨K16, hK16⟩:=nm9 (k + 16)
      rw [hK16] at O9 w5
      obtain ⟨c00,c01,c02,c03⟩:=L.b0.a4
      obtain ⟨c10,c11,c12,c13⟩:=L.tl.b0.a4
      (try go_wp2_with fail)
      clear c00 c01 c02 c03 c10 c11 c12 c13
      obtain ⟨g2, hg2⟩:=nm9 (w94.heap.size)
      rw [hg2] at L hl9 ⊢
      clear hg2
      have n8 : gu < g2:=hl9
      clear hl9
      replace L:=L.subx (ns':=[(.slice A10 (zl X) c10, X.natAbs), (.slice B10 (zl Y) d10, Y.natAbs)]) (bs':=[(gu, 79, #[.bool (ng X), .slice A10 (zl X) c10, .bool (ng Y), .slice B10 (zl Y) d10]), (w.heap.size + 1, 28, #[.bool false, .slice none 0 0, .int .i64 0, .bool false, .slice none 0 0, .int .i64 0])]) (by simp) (by simp)
      obtain ⟨c00,c01,c02,c03⟩:=L.b0.a4
      (try go_wp2_with fail)
      refine (O9.out _ _ (isS_n (a:=X) (b:=Y) (s:=.slice A10 (zl X) c10) (t:=.slice B10 (zl Y) d10) (L.getN (by simp)) (L.getN (by simp)))).mono ?_
      rintro e w121 ⟨vv, rfl, ii, be⟩
      clear c00 c01 c02 c03
      obtain ⟨A6, c6, B6, d6, rfl, ia, ib⟩:=ii.form
      replace L:=(((L.step be).n ib).n ia).swap
      clear be ii ia ib
      obtain ⟨c00,c01,c02,c03,c04,c05⟩:=L.b0.a6
      obtain ⟨f00,f01,f02,f03,f04,f05⟩:=L.b0.f6
      go_wp2_with fail
      have LP:=L.putI (by omega) (by first | (simp; done) | (simp; omega)) (ng M9) A6 (zl M9) c6 E9 (ng N9) B6 (zl N9) d6 F9
      obtain ⟨k0,k1,k2,k3,k4,k5⟩:=LP.b0.a6
      unfold put6 at k0 k1 k2 k3 k4 k5
      exact bodyPost_ret (v:=.agg #[.bool (ng M9), .slice A6 (zl M9) c6, .int .i64 E9, .bool (ng N9), .slice B6 (zl N9) d6, .int .i64 F9]) (by simp [results, Tryz.results17, go_sem, k0, k1, k2, k3, k4, k5]) rfl (RetLa.mk HG.out ⟨_, rfl, isI_n (LP.getN (by simp)) (LP.getN (by simp)), LP.below⟩)
     ·obtain ⟨n, hn⟩ : ∃ n : Nat, kk = (n : Int):=⟨kk.natAbs, by omega⟩
      have hn3 : n ≤ 3000:=by omega
      have sz:=sum15 (v:=v) (by omega) z1 z2 hn3
      have hu:=he.plus (n:=n) (e:=e) hm hV.2 (hkk.trans hn)
      have zt1:=sz.2.2.1.zl
      have zt2:=sz.2.2.2.zl
      have zx:=z1.zl
      have zy:=z2.zl
      have o1:=fun x W h => s13times_any (lnL v) (lnH v) (n : Int) x W h (by omega) (by omega) (by omega) (by omega)
      have o2:=fun x y W h j => s13add_any X Y (lnL v * (n : Int)) (lnH v * (n : Int)) x y W h j (by omega) (by omega) (by omega) (by omega)
      have hs1:=sz.2.1.1
      have hs2:=sz.2.1.2
      have w6 : IntKind.i64.wrap (-kk) = -(n : Int):=by rw [IntKind.wrap_i64]; omega
      have hn0 : ¬ kk < 0:=by omega
      have hn1 : 0 < kk:=by omega
      subst hn
      have hn2 : 0 < n:=by omega
      have hu : LnU v (X + lnL v * (n : Int)) (Y + lnH v * (n : Int)) (dq m e):=hu
      generalize X + lnL v * (n : Int) = R at *
      generalize Y + lnH v * (n : Int) = S at *
      obtain ⟨U, hU⟩:=nm9 (lnL v)
      obtain ⟨T, hT⟩:=nm9 (lnH v)
      rw [hU, hT] at o1 o2 L ⊢
      obtain ⟨U2, hU2⟩:=nm9 (U * (n : Int))
      obtain ⟨T2, hT2⟩:=nm9 (T * (n : Int))
      rw [hU2, hT2] at o1 o2
      have O1:=Hd9 o1
      have O2:=Hd9 o2
      clear o1 o2 sz zt1 zt2 zx zy he z1 z2 y1 y2 hU hT hU2 hT2 HK HK2 HV HE hkk hn3
      obtain ⟨c00,c01,c02,c03⟩:=L.b0.a4
      obtain ⟨c10,c11,c12,c13⟩:=L.tl.b0.a4
      (try go_wp2_with fail)
      clear c00 c01 c02 c03 c10 c11 c12 c13
      obtain ⟨g2, hg2⟩:=nm9 (w94.heap.size)
      rw [hg2] at L hl9 ⊢
      clear hg2
      have n8 : gu < g2:=hl9
      clear hl9
      replace L:=L.drew
      (try go_wp2_with fail)
      have LD:=L.swap
      clear L
      obtain ⟨c00,c01,c02,c03⟩:=LD.b0.a4
      obtain ⟨f00,f01,f02,f03⟩:=LD.b0.f4
      obtain ⟨c10,c11,c12,c13⟩:=LD.tl.b0.a4
      go_cut [79] from 75 to 79 (fun s9 wx => ∃ A7 c7 B7 d7, Lq w wx [(.slice A7 (zl R) c7, R.natAbs), (.slice B7 (zl S) d7, S.natAbs)] [] [] [(gu, 79, #[.bool (ng R), .slice A7 (zl R) c7, .bool (ng S), .slice B7 (zl S) d7]), (w.heap.size + 1, 28, #[.bool false, .slice none 0 0, .int .i64 0, .bool false, .slice none 0 0, .int .i64 0])])
      case first =>
       go_region_with (first | (go_at_call 72; (with_reducible refine (O1.out _ _ ?_).mono ?_); (· (refine isS_n (LD.getN ?_) (LD.getN ?_) <;> (repeat (first | (with_reducible exact mS) | apply mT)))); rintro e9 wh ⟨vh, rfl, iq, be⟩; obtain ⟨A5, c5, B5, d5, rfl, ia, ib⟩:=iq.form; replace LD:=((LD.step be).n ib).n ia; clear be iq ia ib; (try (obtain ⟨r0,r1,r2,r3⟩:=LD.b0.a4; obtain ⟨t0,t1,t2,t3⟩:=LD.b0.f4))) | (go_at_call 68; (with_reducible refine (O2.out _ _ _ ?_ ?_).mono ?_); (· (refine isS_n (LD.getN ?_) (LD.getN ?_) <;> (repeat (first | (with_reducible exact mS) | apply mT)))); (· (refine isS_n (LD.getN ?_) (LD.getN ?_) <;> (repeat (first | (with_reducible exact mS) | apply mT)))); rintro e9 wh ⟨vh, rfl, iq, be⟩; obtain ⟨A7, c7, B7, d7, rfl, ia, ib⟩:=iq.form; replace LD:=((LD.step be).n ib).n ia; clear be iq ia ib; (try (obtain ⟨r0,r1,r2,r3⟩:=LD.b0.a4; obtain ⟨t0,t1,t2,t3⟩:=LD.b0.f4))))
       all_goals
        have LP:=LD.putS (by omega) (by first | (simp; done) | (simp; omega)) (ng R) A7 (zl R) c7 (ng S) B7 (zl S) d7
        unfold put4 at LP
        go_wp2_with fail
        go_meet
        exact ⟨A7, c7, B7, d7, LP.subx (by simp) (by simp)⟩
      case rest =>
       obtain ⟨A7, c7, B7, d7, L⟩:=hcut
       generalize wc = wd4 at *
       clear LD O1 O2
       have hj : v = k + 16 + 44:=by omega
       obtain ⟨q1, q2, q3⟩:=hu.fin hs1 hs2 hj
       have o1:=fun x W h => s13out_any R S v (k + 16) 44 x W h (by have:=hs1.zl; omega) (by have:=hs2.zl; omega) (by omega) hj (by omega)
       have w5 : IntKind.i64.wrap ((k : Int) + 16) = ((k + 16 : Nat) : Int):=by rw [IntKind.wrap_i64]; omega
       obtain ⟨M9, hM9⟩:=nm9 (mkM (R / 2 ^ 44) (-((k + 16 : Nat) : Int)))
       obtain ⟨E9, hE9⟩:=nm9 (mkE (R / 2 ^ 44) (-((k + 16 : Nat) : Int)))
       obtain ⟨N9, hN9⟩:=nm9 (mkM (cdv S (2 ^ 44)) (-((k + 16 : Nat) : Int)))
       obtain ⟨F9, hF9⟩:=nm9 (mkE (cdv S (2 ^ 44)) (-((k + 16 : Nat) : Int)))
       rw [hM9, hE9, hN9, hF9] at o1
       have HG:=Hd9 (show ∃ a b, mkM a (-((k + 16 : Nat) : Int)) = M9 ∧ mkE a (-((k + 16 : Nat) : Int)) = E9 ∧ mkM b (-((k + 16 : Nat) : Int)) = N9 ∧ mkE b (-((k + 16 : Nat) : Int)) = F9 ∧ LnB (k + 16) a b (dq m e) ∧ AbP a 1000 ∧ AbP b 1000 from ⟨_, _, hM9, hE9, hN9, hF9, q1, q2, q3⟩)
       have O9:=Hd9 o1
       clear q1 q2 q3 o1 hM9 hE9 hN9 hF9 hj
       obtain ⟨K16, hK16⟩:=nm9 (k + 16)
       rw [hK16] at O9 w5
       obtain ⟨c00,c01,c02,c03⟩:=L.b0.a4
       (try go_wp2_with fail)
       refine (O9.out _ _ (isS_n (a:=R) (b:=S) (s:=.slice A7 (zl R) c7) (t:=.slice B7 (zl S) d7) (L.getN (by simp)) (L.getN (by simp)))).mono ?_
       rintro e w121 ⟨vv, rfl, ii, be⟩
       clear c00 c01 c02 c03
       obtain ⟨A6, c6, B6, d6, rfl, ia, ib⟩:=ii.form
       replace L:=(((L.step be).n ib).n ia).swap
       clear be ii ia ib
       obtain ⟨c00,c01,c02,c03,c04,c05⟩:=L.b0.a6
       obtain ⟨f00,f01,f02,f03,f04,f05⟩:=L.b0.f6
       go_wp2_with fail
       have LP:=L.putI (by omega) (by first | (simp; done) | (simp; omega)) (ng M9) A6 (zl M9) c6 E9 (ng N9) B6 (zl N9) d6 F9
       obtain ⟨k0,k1,k2,k3,k4,k5⟩:=LP.b0.a6
       unfold put6 at k0 k1 k2 k3 k4 k5
       exact bodyPost_ret (v:=.agg #[.bool (ng M9), .slice A6 (zl M9) c6, .int .i64 E9, .bool (ng N9), .slice B6 (zl N9) d6, .int .i64 F9]) (by simp [results, Tryz.results17, go_sem, k0, k1, k2, k3, k4, k5]) rfl (RetLa.mk HG.out ⟨_, rfl, isI_n (LP.getN (by simp)) (LP.getN (by simp)), LP.below⟩)
structure ArgR (j : Nat) (m e n f : Int) : Prop where
 vm : Dv m e
 vn : Dv n f
 le : dq m e ≤ dq n f
 zm : zl m ≤ 3
 zn : zl n ≤ 3
 em : m = 0 ∨ (-40 - 20 * (j : Int) ≤ e ∧ e ≤ 136 - 20 * (j : Int))
 en : n = 0 ∨ (-40 - 20 * (j : Int) ≤ f ∧ f ≤ 136 - 20 * (j : Int))
theorem ArgR.first {m e n f : Int} (h1 : Dv m e) (h2 : Dv n f) (hl : dcm m e n f ≤ 0) (z1 : zl m ≤ 2 + 1) (z2 : zl n ≤ 2 + 1) (he : -((40 : Nat) : Int) ≤ e ∧ e ≤ ((40 : Nat) : Int) + 32 * (((2 : Nat) : Int) + 1)) (hf : -((40 : Nat) : Int) ≤ f ∧ f ≤ ((40 : Nat) : Int) + 32 * (((2 : Nat) : Int) + 1)) : ArgR 0 m e n f:=
 ⟨h1, h2, (dcm_le _ _ _ _).1 hl, z1, z2, Or.inr (by omega), Or.inr (by omega)⟩
section
variable {w0 w : World} {ns : List (Value × Nat)} {zs : List (Value × Int)} {qs : List (Value × Int × Nat)} {bs : List (Nat × TypeId × Array Value)} {g : Nat} {v0 v1 v2 v3 v4 v5 : Value}
theorem Lq.putLo (h : Lq w0 w ns zs qs ((g, 28, #[v0, v1, v2, v3, v4, v5]) :: bs)) (hg : w0.heap.size ≤ g) (hd : ∀ p ∈ bs, p.1 ≠ g) (b : Bool) (A : Option Addr) (p c : Nat) (e : Int) :
  Lq w0 (((w.setCell ⟨g, 0, none⟩ (.bool b)).setCell ⟨g, 1, none⟩ (.slice A p c)).setCell ⟨g, 2, none⟩ (.int .i64 e)) ns zs qs ((g, 28, #[.bool b, .slice A p c, .int .i64 e, v3, v4, v5]) :: bs):=
 ((h.set hg hd 0 (.bool b) (by intro x e; cases e)).set hg hd 1 (.slice A p c) (by intro x e; cases e)).set hg hd 2 (.int .i64 e) (by intro x e; cases e)
theorem Lq.putHi (h : Lq w0 w ns zs qs ((g, 28, #[v0, v1, v2, v3, v4, v5]) :: bs)) (hg : w0.heap.size ≤ g) (hd : ∀ p ∈ bs, p.1 ≠ g) (b : Bool) (A : Option Addr) (p c : Nat) (e : Int) :
  Lq w0 (((w.setCell ⟨g, 3, none⟩ (.bool b)).setCell ⟨g, 4, none⟩ (.slice A p c)).setCell ⟨g, 5, none⟩ (.int .i64 e)) ns zs qs ((g, 28, #[v0, v1, v2, .bool b, .slice A p c, .int .i64 e]) :: bs):=
 ((h.set hg hd 3 (.bool b) (by intro x e; cases e)).set hg hd 4 (.slice A p c) (by intro x e; cases e)).set hg hd 5 (.int .i64 e) (by intro x e; cases e)
end
theorem of15_any (a b : Int) (w : World) (h1 : -4000 ≤ a ∧ a ≤ 4000) (h2 : -4000 ≤ b ∧ b ≤ 4000) :
  Calls Tryz.prog 40 #[.int .i64 a, .int .i64 b] w (RetI6 w (mkM a 0) (mkE a 0) (mkM b 0) (mkE b 0)):=by
 have HA:=Hd9 (fun W => rof8_any a W (by omega) (by omega))
 have HB:=Hd9 (fun W => rof8_any b W (by omega) (by omega))
 generalize mkM a 0 = m at *
 generalize mkE a 0 = e at *
 generalize mkM b 0 = n at *
 generalize mkE b 0 = f at *
 clear h1 h2
 go_enter Tryz.func40, Tryz.ntmps40
 go_wp2_with fail
 have L:=((Lq.mk0 w).varI (w.heap.size) (by simp) false none 0 0 0 false none 0 0 0)
 obtain ⟨c00,c01,c02,c03,c04,c05⟩:=L.b0.a6
 obtain ⟨f00,f01,f02,f03,f04,f05⟩:=L.b0.f6
 (try go_wp2_with fail)
 refine (HA.out _).mono ?_
 rintro e w1 ⟨v1, rfl, id, be⟩
 clear c00 f00 c01 f01 c02 f02 c03 f03 c04 f04 c05 f05
 obtain ⟨A, c, rfl, _, in9⟩:=id.form
 replace L:=(L.step be).n in9
 clear be id in9
 obtain ⟨c00,c01,c02,c03,c04,c05⟩:=L.b0.a6
 obtain ⟨f00,f01,f02,f03,f04,f05⟩:=L.b0.f6
 (try go_wp2_with fail)
 refine (HB.out _).mono ?_
 rintro e w2 ⟨v2, rfl, id, be⟩
 clear c00 f00 c01 f01 c02 f02 c03 f03 c04 f04 c05 f05
 obtain ⟨B, d, rfl, _, in9⟩:=id.form
 replace L:=(L.step be).n in9
 clear be id in9
 obtain ⟨c00,c01,c02,c03,c04,c05⟩:=L.b0.a6
 obtain ⟨f00,f01,f02,f03,f04,f05⟩:=L.b0.f6
 (try go_wp2_with fail)
 have LP:=L.putI (by omega) (by first | (simp; done) | (simp; omega)) (ng m) A (zl m) c e (ng n) B (zl n) d f
 obtain ⟨k0,k1,k2,k3,k4,k5⟩:=LP.b0.a6
 unfold put6 at k0 k1 k2 k3 k4 k5
 exact bodyPost_ret (v:=.agg #[.bool (ng m), .slice A (zl m) c, .int .i64 e, .bool (ng n), .slice B (zl n) d, .int .i64 f]) (by simp [results, Tryz.results40, go_sem, k0, k1, k2, k3, k4, k5]) rfl ⟨_, rfl, isI_n (LP.getN (by simp)) (LP.getN (by simp)), LP.below⟩
theorem Lq.sub1 {w0 w : World} {ns : List (Value × Nat)} {zs : List (Value × Int)} {qs : List (Value × Int × Nat)} {bs : List (Nat × TypeId × Array Value)} (h : Lq w0 w ns zs qs bs) {ns' : List (Value × Nat)} {bs' : List (Nat × TypeId × Array Value)} (h1 : ∀ p ∈ ns', p ∈ ns) (h2 : ∀ b ∈ bs', b ∈ bs) : Lq w0 w ns' [] [] bs':=h.subx h1 h2
structure ArgL (m e n f : Int) : Prop where
 vm : Dv m e
 vn : Dv n f
 pm : 0 < m
 le : dq m e ≤ dq n f
 zm : zl m ≤ 3
 zn : zl n ≤ 3
 em : -60 ≤ e ∧ e ≤ 156
 en : -60 ≤ f ∧ f ≤ 156
theorem adiv_pos (m e n f m2 e2 n2 f2 k : Int) (vx vy : Value) (w : World) (hx : IsI w vx m e n f) (hy : IsI w vy m2 e2 n2 f2) (lm : zl m ≤ 140) (ln : zl n ≤ 140) (lm2 : zl m2 ≤ 140) (ln2 : zl n2 ≤ 140) (he : -4500 ≤ e ∧ e ≤ 4500) (hf : -4500 ≤ f ∧ f ≤ 4500) (he2 : -4500 ≤ e2 ∧ e2 ≤ 4500) (hf2 : -4500 ≤ f2 ∧ f2 ≤ 4500) (hd1 : dcm m e n f ≤ 0) (hd2 : dcm m2 e2 n2 f2 ≤ 0) (hk1 : -9223372036854775808 ≤ k) (hk2 : k ≤ 9223372036854775807) (hT : Tab w) (hw : workB k = true) (hxy : cmpI m2 0 = cmpI n2 0) (hx0 : ¬ cmpI m2 0 = 0) (hx1 : ¬ cmpI m2 0 < 0) :
  Calls Tryz.prog 181 #[vx, vy, .int .i64 k] w (RetEn w (min4 (dq m e / dq m2 e2) (dq m e / dq n2 f2) (dq n f / dq m2 e2) (dq n f / dq n2 f2)) (max4 (dq m e / dq m2 e2) (dq m e / dq n2 f2) (dq n f / dq m2 e2) (dq n f / dq n2 f2)) k):=by
 obtain ⟨A, c, B, d, rfl, hn1, hn2⟩:=hx.form
 obtain ⟨A2, k2, B2, d2, rfl, hn3, hn4⟩:=hy.form
 have L0:=((((Lq.mk0 w).n hn4).n hn3).n hn2).n hn1
 have S0:=fun v W h => i10sign_any m2 e2 n2 f2 v W h (by omega) (by omega) (by omega) (by omega)
 have HW0:=fun W => aperm_any k W
 unfold RetSg at S0
 rw [hw] at HW0
 have HW:=Hd9 HW0
 clear HW0
 obtain ⟨ps1, ps2⟩:=(cmp_signs hxy).2 hx1 hx0
 obtain ⟨x, hx9⟩:=nm9 (cmpI m2 0)
 rw [if_pos hxy, decide_eq_true hxy] at S0
 rw [hx9] at S0 hx0 hx1
 have S:=Hd9 S0
 clear S0 hx9 hxy
 have b1 : (x == 0) = false:=by simpa using hx0
 obtain ⟨lo, hlo⟩:=nm9 (min4 (dq m e / dq m2 e2) (dq m e / dq n2 f2) (dq n f / dq m2 e2) (dq n f / dq n2 f2))
 obtain ⟨hi, hhi⟩:=nm9 (max4 (dq m e / dq m2 e2) (dq m e / dq n2 f2) (dq n f / dq m2 e2) (dq n f / dq n2 f2))
 rw [hlo, hhi]
 have b2 : decide (x < 0) = false:=decide_eq_false hx1
 have fl : min4 (dq m e / dq m2 e2) (dq m e / dq n2 f2) (dq n f / dq m2 e2) (dq n f / dq n2 f2) = lo:=hlo
 have fh : max4 (dq m e / dq m2 e2) (dq m e / dq n2 f2) (dq n f / dq m2 e2) (dq n f / dq n2 f2) = hi:=hhi
 have bs1:=fun v u z W h1 h2 h3 => absign_any m e m2 e2 n2 f2 v u z W h1 h2 h3 (by omega)
 have v1:=quo_lo hd1 hd2 ps1 ps2
 obtain ⟨p1, hp1⟩:=nm9 ((if m < 0 then m2 else n2))
 obtain ⟨s1, hs1⟩:=nm9 ((if m < 0 then e2 else f2))
 have pb1 : zl p1 ≤ 140 ∧ (-4500 ≤ s1 ∧ s1 ≤ 4500) ∧ p1 ≠ 0:=by rw [← hp1, ← hs1]; split <;> refine ⟨by omega, by omega, by omega⟩
 rw [hp1, hs1] at bs1 v1
 have qu1:=fun v u W h1 h2 => aquot_any m e p1 s1 v u W h1 h2 (by omega) (by omega) (by omega) (by omega) pb1.2.2
 have qs1:=qt_small (m:=m) (e:=e) (n:=p1) (f:=s1) pb1.2.2 (by omega) (by omega) (by omega) (by omega)
 have qp1:=qt_pos m e p1 s1
 obtain ⟨qa1, ha1⟩:=nm9 (qtA m e p1 s1)
 obtain ⟨qd1, hdd1⟩:=nm9 (qtD m e p1 s1)
 rw [ha1, hdd1] at v1 qu1 qs1
 rw [hdd1] at qp1
 rw [fl] at v1
 have bs2:=fun v u z W h1 h2 h3 => absign_any n f n2 f2 m2 e2 v u z W h1 h2 h3 (by omega)
 have v2:=quo_hi hd1 hd2 ps1 ps2
 obtain ⟨p2, hp2⟩:=nm9 ((if n < 0 then n2 else m2))
 obtain ⟨s2, hs2⟩:=nm9 ((if n < 0 then f2 else e2))
 have pb2 : zl p2 ≤ 140 ∧ (-4500 ≤ s2 ∧ s2 ≤ 4500) ∧ p2 ≠ 0:=by rw [← hp2, ← hs2]; split <;> refine ⟨by omega, by omega, by omega⟩
 rw [hp2, hs2] at bs2 v2
 have qu2:=fun v u W h1 h2 => aquot_any n f p2 s2 v u W h1 h2 (by omega) (by omega) (by omega) (by omega) pb2.2.2
 have qs2:=qt_small (m:=n) (e:=f) (n:=p2) (f:=s2) pb2.2.2 (by omega) (by omega) (by omega) (by omega)
 have qp2:=qt_pos n f p2 s2
 obtain ⟨qa2, ha2⟩:=nm9 (qtA n f p2 s2)
 obtain ⟨qd2, hdd2⟩:=nm9 (qtD n f p2 s2)
 rw [ha2, hdd2] at v2 qu2 qs2
 rw [hdd2] at qp2
 rw [fh] at v2
 have en:=fun v u W h1 h2 (hW : Below w.heap.size w W) => aenclR_any qa1 qd1 qa2 qd2 k v u W h1 h2 qs1.1 qs1.2 qp1 qs2.1 qs2.2 qp2 hw (hT.mono hW)
 rw [v1, v2] at en
 have BS1:=Hd9 bs1
 have BS2:=Hd9 bs2
 have QU1:=Hd9 qu1
 have QU2:=Hd9 qu2
 have EN:=Hd9 en
 clear bs1 bs2 qu1 qu2 en v1 v2 hp1 hp2 hs1 hs2 pb1 pb2 qs1 qs2 qp1 qp2 ha1 ha2 hdd1 hdd2
 clear fl fh hlo hhi hw hx0 hx1 ps1 ps2 hx hy hn1 hn2 hn3 hn4 lm ln lm2 ln2 he hf he2 hf2 hd1 hd2 hk1 hk2 hT
 go_enter Tryz.func181, Tryz.ntmps181
 go_wp2_with fail
 have L:=(((L0.varI (w.heap.size) (by simp) (ng m) A (zl m) c e (ng n) B (zl n) d f).varI (w.heap.size + 1) (by simp) (ng m2) A2 (zl m2) k2 e2 (ng n2) B2 (zl n2) d2 f2).varI (w.heap.size + 2) (by simp) false none 0 0 0 false none 0 0 0)
 obtain ⟨gr, hgr⟩:=nm9 (w.heap.size + 1 + 1)
 have hgr2 : w.heap.size + 2 = gr:=hgr
 rw [hgr2] at L
 rw [hgr]
 have hgr3 : w.heap.size + 1 < gr:=by omega
 clear hgr hgr2
 obtain ⟨c00,c01,c02,c03,c04,c05⟩:=L.b0.a6
 obtain ⟨f00,f01,f02,f03,f04,f05⟩:=L.b0.f6
 obtain ⟨c10,c11,c12,c13,c14,c15⟩:=L.tl.b0.a6
 (try go_wp2_with fail)
 refine (S.out _ _ (isI_n (m:=m2) (e:=e2) (n:=n2) (f:=f2) (L.getN (v:=.slice A2 (zl m2) k2) (x:=(m2).natAbs) (by simp)) (L.getN (v:=.slice B2 (zl n2) d2) (x:=(n2).natAbs) (by simp)))).mono ?_
 rintro e w1 ⟨rfl, be⟩
 clear c00 f00 c01 f01 c02 f02 c03 f03 c04 f04 c05 f05 c10 c11 c12 c13 c14 c15
 replace L:=L.step be
 clear be
 obtain ⟨c00,c01,c02,c03,c04,c05⟩:=L.b0.a6
 obtain ⟨f00,f01,f02,f03,f04,f05⟩:=L.b0.f6
 (try go_wp2_with fail)
 refine (HW.out _).mono ?_
 rintro e9 w' ⟨rfl, rfl⟩
 (try go_wp2_with fail)
 clear c00 f00 c01 f01 c02 f02 c03 f03 c04 f04 c05 f05
 have Q0:=Hd9 (fun Z (hZ : Below w1.heap.size w1 Z) => (L.tl.tl.b0.mono hZ).c60)
 have Q1:=Hd9 (fun Z (hZ : Below w1.heap.size w1 Z) => (L.tl.tl.b0.mono hZ).c61)
 have Q2:=Hd9 (fun Z (hZ : Below w1.heap.size w1 Z) => (L.tl.tl.b0.mono hZ).c62)
 have Q3:=Hd9 (fun Z (hZ : Below w1.heap.size w1 Z) => (L.tl.tl.b0.mono hZ).c63)
 have Q4:=Hd9 (fun Z (hZ : Below w1.heap.size w1 Z) => (L.tl.tl.b0.mono hZ).c64)
 have Q5:=Hd9 (fun Z (hZ : Below w1.heap.size w1 Z) => (L.tl.tl.b0.mono hZ).c65)
 have Q6:=Hd9 (fun Z (hZ : Below w1.heap.size w1 Z) => (L.tl.b0.mono hZ).c60)
 have Q7:=Hd9 (fun Z (hZ : Below w1.heap.size w1 Z) => (L.tl.b0.mono hZ).c61)
 have Q8:=Hd9 (fun Z (hZ : Below w1.heap.size w1 Z) => (L.tl.b0.mono hZ).c62)
 have Q9:=Hd9 (fun Z (hZ : Below w1.heap.size w1 Z) => (L.tl.b0.mono hZ).c63)
 have Q10:=Hd9 (fun Z (hZ : Below w1.heap.size w1 Z) => (L.tl.b0.mono hZ).c64)
 have Q11:=Hd9 (fun Z (hZ : Below w1.heap.size w1 Z) => (L.tl.b0.mono hZ).c65)
 have hb1:=L.tl.tl.b0.lt
 have hb2:=L.tl.b0.lt
 have D0 : Dq w1 w1 [(.slice A (zl m) c, m.natAbs), (.slice B (zl n) d, n.natAbs), (.slice A2 (zl m2) k2, m2.natAbs), (.slice B2 (zl n2) d2, n2.natAbs)] [] [] []:=⟨((((Lq.mk0 w1).n (L.getN (v:=.slice B2 (zl n2) d2) (x:=(n2).natAbs) (by simp))).n (L.getN (v:=.slice A2 (zl m2) k2) (x:=(m2).natAbs) (by simp))).n (L.getN (v:=.slice B (zl n) d) (x:=(n).natAbs) (by simp))).n (L.getN (v:=.slice A (zl m) c) (x:=(m).natAbs) (by simp)), List.nodup_nil, fun p hp => by cases hp⟩
 have D:=D0.drew
 have LL:=Hd9 L
 clear L
 obtain ⟨K, hK⟩:=nm9 (w1.heap.size)
 have hz0 : K ≤ w1.heap.size:=by omega
 have hc1 : w.heap.size < K:=by omega
 have hc2 : w.heap.size + 1 < K:=by omega
 have hmd : w1.drew.heap.size = K:=hK
 go_cut [10] from 40 to 50 (fun s5 wx => Made1Q w1 qa1 qd1 s5 wx)
 case first =>
  go_region_held3 (fun w' => w'.cell? ⟨w.heap.size, 0, none⟩ = some (.bool (ng m)) ∧ w'.cell? ⟨w.heap.size, 1, none⟩ = some (.slice A (zl m) c) ∧ w'.cell? ⟨w.heap.size, 2, none⟩ = some (.int .i64 e) ∧ w'.cell? ⟨w.heap.size, 3, none⟩ = some (.bool (ng n)) ∧ w'.cell? ⟨w.heap.size, 4, none⟩ = some (.slice B (zl n) d) ∧ w'.cell? ⟨w.heap.size, 5, none⟩ = some (.int .i64 f) ∧ w'.cell? ⟨w.heap.size + 1, 0, none⟩ = some (.bool (ng m2)) ∧ w'.cell? ⟨w.heap.size + 1, 1, none⟩ = some (.slice A2 (zl m2) k2) ∧ w'.cell? ⟨w.heap.size + 1, 2, none⟩ = some (.int .i64 e2) ∧ w'.cell? ⟨w.heap.size + 1, 3, none⟩ = some (.bool (ng n2)) ∧ w'.cell? ⟨w.heap.size + 1, 4, none⟩ = some (.slice B2 (zl n2) d2) ∧ w'.cell? ⟨w.heap.size + 1, 5, none⟩ = some (.int .i64 f2)) (((try dsimp only); refine ⟨?_, ?_, ?_, ?_, ?_, ?_, ?_, ?_, ?_, ?_, ?_, ?_⟩ <;> (repeat (first | (with_reducible exact Q0.out _ D.lq.below) | (with_reducible exact Q0.out _ D0.lq.below) | (with_reducible exact Q1.out _ D.lq.below) | (with_reducible exact Q1.out _ D0.lq.below) | (with_reducible exact Q2.out _ D.lq.below) | (with_reducible exact Q2.out _ D0.lq.below) | (with_reducible exact Q3.out _ D.lq.below) | (with_reducible exact Q3.out _ D0.lq.below) | (with_reducible exact Q4.out _ D.lq.below) | (with_reducible exact Q4.out _ D0.lq.below) | (with_reducible exact Q5.out _ D.lq.below) | (with_reducible exact Q5.out _ D0.lq.below) | (with_reducible exact Q6.out _ D.lq.below) | (with_reducible exact Q6.out _ D0.lq.below) | (with_reducible exact Q7.out _ D.lq.below) | (with_reducible exact Q7.out _ D0.lq.below) | (with_reducible exact Q8.out _ D.lq.below) | (with_reducible exact Q8.out _ D0.lq.below) | (with_reducible exact Q9.out _ D.lq.below) | (with_reducible exact Q9.out _ D0.lq.below) | (with_reducible exact Q10.out _ D.lq.below) | (with_reducible exact Q10.out _ D0.lq.below) | (with_reducible exact Q11.out _ D.lq.below) | (with_reducible exact Q11.out _ D0.lq.below) | (with_reducible refine c_alloc _ ?_) | (with_reducible refine c_drew ?_) | (with_reducible refine c_set ?_ (by assumption) ?_) | omega)))) (first | (go_at_call 219; (with_reducible refine (BS1.out _ _ _ _ ?_ ?_ ?_).mono ?_); (· (first | (with_reducible refine isD_n (D.getN ?_); (repeat (first | (with_reducible exact mS) | apply mT))) | (with_reducible refine isD_n ((D.box false none none 0 0 0 0).getN ?_); (repeat (first | (with_reducible exact mS) | apply mT))) | (with_reducible refine isD_n ((D0.box false none none 0 0 0 0).drew.getN ?_); (repeat (first | (with_reducible exact mS) | apply mT))))); (· (first | (with_reducible refine isD_n (D.getN ?_); (repeat (first | (with_reducible exact mS) | apply mT))) | (with_reducible refine isD_n ((D.box false none none 0 0 0 0).getN ?_); (repeat (first | (with_reducible exact mS) | apply mT))) | (with_reducible refine isD_n ((D0.box false none none 0 0 0 0).drew.getN ?_); (repeat (first | (with_reducible exact mS) | apply mT))))); (· (first | (with_reducible refine isD_n (D.getN ?_); (repeat (first | (with_reducible exact mS) | apply mT))) | (with_reducible refine isD_n ((D.box false none none 0 0 0 0).getN ?_); (repeat (first | (with_reducible exact mS) | apply mT))) | (with_reducible refine isD_n ((D0.box false none none 0 0 0 0).drew.getN ?_); (repeat (first | (with_reducible exact mS) | apply mT))))); rintro e9 wh ⟨vh, rfl, id, be⟩; obtain ⟨A7, c7, rfl, _, in9⟩:=id.form; (first | (replace D:=D.step be) | (replace D:=(D.boxM hmd false none none 0 0 0 0).step be) | (replace D:=(D.box false none none 0 0 0 0).step be)); have hz:=be.size; (try simp at hz); replace D:=D.n in9; clear id in9; (try (obtain ⟨x00,x01,x02⟩:=D.lq.b0.a3; obtain ⟨y00,y01,y02⟩:=D.lq.b0.f3)); (try obtain ⟨na, nb, nc, nd, nl⟩:=D.n0)) | (go_at_call 218; (with_reducible refine (QU1.out _ _ _ ?_ ?_).mono ?_); (· (first | (with_reducible refine isD_n (D.getN ?_); (repeat (first | (with_reducible exact mS) | apply mT))) | (with_reducible refine isD_n ((D.box false none none 0 0 0 0).getN ?_); (repeat (first | (with_reducible exact mS) | apply mT))) | (with_reducible refine isD_n ((D0.box false none none 0 0 0 0).drew.getN ?_); (repeat (first | (with_reducible exact mS) | apply mT))))); (· (first | (with_reducible refine isD_n (D.getN ?_); (repeat (first | (with_reducible exact mS) | apply mT))) | (with_reducible refine isD_n ((D.box false none none 0 0 0 0).getN ?_); (repeat (first | (with_reducible exact mS) | apply mT))) | (with_reducible refine isD_n ((D0.box false none none 0 0 0 0).drew.getN ?_); (repeat (first | (with_reducible exact mS) | apply mT))))); rintro e9 wh ⟨vh, rfl, iq, be⟩; obtain ⟨A8, c8, B8, k8, rfl, _, _, _⟩:=iq.form; (first | (replace D:=D.step be) | (replace D:=(D.boxM hmd false none none 0 0 0 0).step be) | (replace D:=(D.box false none none 0 0 0 0).step be)); have hz:=be.size; (try simp at hz); replace D:=D.q iq; clear iq; (try (obtain ⟨x00,x01,x02⟩:=D.lq.b0.a3; obtain ⟨y00,y01,y02⟩:=D.lq.b0.f3)); (try obtain ⟨na, nb, nc, nd, nl⟩:=D.n0)))
  all_goals
   go_wp2_with fail
   go_meet
   first
   | ((with_reducible refine made1q_a D ?_) <;> (repeat (first | (with_reducible exact mS) | apply mT)))
   | ((with_reducible refine made1q_b D ?_) <;> (repeat (first | (with_reducible exact mS) | apply mT)))
 case rest =>
  obtain ⟨gq1, Aq1, cq1, Bq1, kq1, rfl, hg, bw, hb3, iq⟩:=hcut
  have hg4:=LL.out.b0.lt
  have hgq1 : gr < gq1:=by omega
  have hgs1:=hb3.lt
  have L:=((LL.out.step bw).q iq).b hb3
  clear D D0 hmd hz0 hK LL hb3 iq bw hb1 hb2 hc1 hc2 hg hg4 Q0 Q1 Q2 Q3 Q4 Q5 Q6 Q7 Q8 Q9 Q10 Q11
  generalize wc = wd1 at *
  (try go_wp2_with fail)
  replace L:=L.swap
  have Q0:=Hd9 (fun Z (hZ : Below wd1.heap.size wd1 Z) => (L.tl.tl.tl.b0.mono hZ).c60)
  have Q1:=Hd9 (fun Z (hZ : Below wd1.heap.size wd1 Z) => (L.tl.tl.tl.b0.mono hZ).c61)
  have Q2:=Hd9 (fun Z (hZ : Below wd1.heap.size wd1 Z) => (L.tl.tl.tl.b0.mono hZ).c62)
  have Q3:=Hd9 (fun Z (hZ : Below wd1.heap.size wd1 Z) => (L.tl.tl.tl.b0.mono hZ).c63)
  have Q4:=Hd9 (fun Z (hZ : Below wd1.heap.size wd1 Z) => (L.tl.tl.tl.b0.mono hZ).c64)
  have Q5:=Hd9 (fun Z (hZ : Below wd1.heap.size wd1 Z) => (L.tl.tl.tl.b0.mono hZ).c65)
  have Q6:=Hd9 (fun Z (hZ : Below wd1.heap.size wd1 Z) => (L.tl.tl.b0.mono hZ).c60)
  have Q7:=Hd9 (fun Z (hZ : Below wd1.heap.size wd1 Z) => (L.tl.tl.b0.mono hZ).c61)
  have Q8:=Hd9 (fun Z (hZ : Below wd1.heap.size wd1 Z) => (L.tl.tl.b0.mono hZ).c62)
  have Q9:=Hd9 (fun Z (hZ : Below wd1.heap.size wd1 Z) => (L.tl.tl.b0.mono hZ).c63)
  have Q10:=Hd9 (fun Z (hZ : Below wd1.heap.size wd1 Z) => (L.tl.tl.b0.mono hZ).c64)
  have Q11:=Hd9 (fun Z (hZ : Below wd1.heap.size wd1 Z) => (L.tl.tl.b0.mono hZ).c65)
  have hb1:=L.tl.tl.tl.b0.lt
  have hb2:=L.tl.tl.b0.lt
  have D0 : Dq wd1 wd1 [(.slice A (zl m) c, m.natAbs), (.slice B (zl n) d, n.natAbs), (.slice A2 (zl m2) k2, m2.natAbs), (.slice B2 (zl n2) d2, n2.natAbs)] [] [] []:=⟨((((Lq.mk0 wd1).n (L.getN (v:=.slice B2 (zl n2) d2) (x:=(n2).natAbs) (by simp))).n (L.getN (v:=.slice A2 (zl m2) k2) (x:=(m2).natAbs) (by simp))).n (L.getN (v:=.slice B (zl n) d) (x:=(n).natAbs) (by simp))).n (L.getN (v:=.slice A (zl m) c) (x:=(m).natAbs) (by simp)), List.nodup_nil, fun p hp => by cases hp⟩
  have D:=D0.drew
  have LL:=Hd9 L
  clear L
  obtain ⟨K, hK⟩:=nm9 (wd1.heap.size)
  have hz0 : K ≤ wd1.heap.size:=by omega
  have hc1 : w.heap.size < K:=by omega
  have hc2 : w.heap.size + 1 < K:=by omega
  have hmd : wd1.drew.heap.size = K:=hK
  go_cut [11] from 50 to 60 (fun s5 wx => Made1Q wd1 qa2 qd2 s5 wx)
  case first =>
   go_region_held3 (fun w' => w'.cell? ⟨w.heap.size, 0, none⟩ = some (.bool (ng m)) ∧ w'.cell? ⟨w.heap.size, 1, none⟩ = some (.slice A (zl m) c) ∧ w'.cell? ⟨w.heap.size, 2, none⟩ = some (.int .i64 e) ∧ w'.cell? ⟨w.heap.size, 3, none⟩ = some (.bool (ng n)) ∧ w'.cell? ⟨w.heap.size, 4, none⟩ = some (.slice B (zl n) d) ∧ w'.cell? ⟨w.heap.size, 5, none⟩ = some (.int .i64 f) ∧ w'.cell? ⟨w.heap.size + 1, 0, none⟩ = some (.bool (ng m2)) ∧ w'.cell? ⟨w.heap.size + 1, 1, none⟩ = some (.slice A2 (zl m2) k2) ∧ w'.cell? ⟨w.heap.size + 1, 2, none⟩ = some (.int .i64 e2) ∧ w'.cell? ⟨w.heap.size + 1, 3, none⟩ = some (.bool (ng n2)) ∧ w'.cell? ⟨w.heap.size + 1, 4, none⟩ = some (.slice B2 (zl n2) d2) ∧ w'.cell? ⟨w.heap.size + 1, 5, none⟩ = some (.int .i64 f2)) (((try dsimp only); refine ⟨?_, ?_, ?_, ?_, ?_, ?_, ?_, ?_, ?_, ?_, ?_, ?_⟩ <;> (repeat (first | (with_reducible exact Q0.out _ D.lq.below) | (with_reducible exact Q0.out _ D0.lq.below) | (with_reducible exact Q1.out _ D.lq.below) | (with_reducible exact Q1.out _ D0.lq.below) | (with_reducible exact Q2.out _ D.lq.below) | (with_reducible exact Q2.out _ D0.lq.below) | (with_reducible exact Q3.out _ D.lq.below) | (with_reducible exact Q3.out _ D0.lq.below) | (with_reducible exact Q4.out _ D.lq.below) | (with_reducible exact Q4.out _ D0.lq.below) | (with_reducible exact Q5.out _ D.lq.below) | (with_reducible exact Q5.out _ D0.lq.below) | (with_reducible exact Q6.out _ D.lq.below) | (with_reducible exact Q6.out _ D0.lq.below) | (with_reducible exact Q7.out _ D.lq.below) | (with_reducible exact Q7.out _ D0.lq.below) | (with_reducible exact Q8.out _ D.lq.below) | (with_reducible exact Q8.out _ D0.lq.below) | (with_reducible exact Q9.out _ D.lq.below) | (with_reducible exact Q9.out _ D0.lq.below) | (with_reducible exact Q10.out _ D.lq.below) | (with_reducible exact Q10.out _ D0.lq.below) | (with_reducible exact Q11.out _ D.lq.below) | (with_reducible exact Q11.out _ D0.lq.below) | (with_reducible refine c_alloc _ ?_) | (with_reducible refine c_drew ?_) | (with_reducible refine c_set ?_ (by assumption) ?_) | omega)))) (first | (go_at_call 219; (with_reducible refine (BS2.out _ _ _ _ ?_ ?_ ?_).mono ?_); (· (first | (with_reducible refine isD_n (D.getN ?_); (repeat (first | (with_reducible exact mS) | apply mT))) | (with_reducible refine isD_n ((D.box false none none 0 0 0 0).getN ?_); (repeat (first | (with_reducible exact mS) | apply mT))) | (with_reducible refine isD_n ((D0.box false none none 0 0 0 0).drew.getN ?_); (repeat (first | (with_reducible exact mS) | apply mT))))); (· (first | (with_reducible refine isD_n (D.getN ?_); (repeat (first | (with_reducible exact mS) | apply mT))) | (with_reducible refine isD_n ((D.box false none none 0 0 0 0).getN ?_); (repeat (first | (with_reducible exact mS) | apply mT))) | (with_reducible refine isD_n ((D0.box false none none 0 0 0 0).drew.getN ?_); (repeat (first | (with_reducible exact mS) | apply mT))))); (· (first | (with_reducible refine isD_n (D.getN ?_); (repeat (first | (with_reducible exact mS) | apply mT))) | (with_reducible refine isD_n ((D.box false none none 0 0 0 0).getN ?_); (repeat (first | (with_reducible exact mS) | apply mT))) | (with_reducible refine isD_n ((D0.box false none none 0 0 0 0).drew.getN ?_); (repeat (first | (with_reducible exact mS) | apply mT))))); rintro e9 wh ⟨vh, rfl, id, be⟩; obtain ⟨A7, c7, rfl, _, in9⟩:=id.form; (first | (replace D:=D.step be) | (replace D:=(D.boxM hmd false none none 0 0 0 0).step be) | (replace D:=(D.box false none none 0 0 0 0).step be)); have hz:=be.size; (try simp at hz); replace D:=D.n in9; clear id in9; (try (obtain ⟨x00,x01,x02⟩:=D.lq.b0.a3; obtain ⟨y00,y01,y02⟩:=D.lq.b0.f3)); (try obtain ⟨na, nb, nc, nd, nl⟩:=D.n0)) | (go_at_call 218; (with_reducible refine (QU2.out _ _ _ ?_ ?_).mono ?_); (· (first | (with_reducible refine isD_n (D.getN ?_); (repeat (first | (with_reducible exact mS) | apply mT))) | (with_reducible refine isD_n ((D.box false none none 0 0 0 0).getN ?_); (repeat (first | (with_reducible exact mS) | apply mT))) | (with_reducible refine isD_n ((D0.box false none none 0 0 0 0).drew.getN ?_); (repeat (first | (with_reducible exact mS) | apply mT))))); (· (first | (with_reducible refine isD_n (D.getN ?_); (repeat (first | (with_reducible exact mS) | apply mT))) | (with_reducible refine isD_n ((D.box false none none 0 0 0 0).getN ?_); (repeat (first | (with_reducible exact mS) | apply mT))) | (with_reducible refine isD_n ((D0.box false none none 0 0 0 0).drew.getN ?_); (repeat (first | (with_reducible exact mS) | apply mT))))); rintro e9 wh ⟨vh, rfl, iq, be⟩; obtain ⟨A8, c8, B8, k8, rfl, _, _, _⟩:=iq.form; (first | (replace D:=D.step be) | (replace D:=(D.boxM hmd false none none 0 0 0 0).step be) | (replace D:=(D.box false none none 0 0 0 0).step be)); have hz:=be.size; (try simp at hz); replace D:=D.q iq; clear iq; (try (obtain ⟨x00,x01,x02⟩:=D.lq.b0.a3; obtain ⟨y00,y01,y02⟩:=D.lq.b0.f3)); (try obtain ⟨na, nb, nc, nd, nl⟩:=D.n0)))
   all_goals
    go_wp2_with fail
    go_meet
    first
    | ((with_reducible refine made1q_a D ?_) <;> (repeat (first | (with_reducible exact mS) | apply mT)))
    | ((with_reducible refine made1q_b D ?_) <;> (repeat (first | (with_reducible exact mS) | apply mT)))
  case rest =>
   obtain ⟨gq2, Aq2, cq2, Bq2, kq2, rfl, hg, bw, hb3, iq⟩:=hcut
   have hg4:=LL.out.b0.lt
   have hgq2 : gr < gq2:=by omega
   have hgs2:=hb3.lt
   have L:=((LL.out.step bw).q iq).b hb3
   clear D D0 hmd hz0 hK LL hb3 iq bw hb1 hb2 hc1 hc2 hg hg4 Q0 Q1 Q2 Q3 Q4 Q5 Q6 Q7 Q8 Q9 Q10 Q11
   generalize wc = wd2 at *
   obtain ⟨c00,c01,c02⟩:=L.b0.a3
   obtain ⟨c20,c21,c22⟩:=L.tl.tl.b0.a3
   (try go_wp2_with fail)
   refine (EN.out _ _ _ (L.getQ (v:=.agg #[.bool (ng qa1), .slice Aq1 (zl qa1) cq1, .slice Bq1 (len qd1) kq1]) (a:=qa1) (d:=qd1) (by simp)) (L.getQ (v:=.agg #[.bool (ng qa2), .slice Aq2 (zl qa2) cq2, .slice Bq2 (len qd2) kq2]) (a:=qa2) (d:=qd2) (by simp)) L.below).mono ?_
   intro e9 w19 hen
   obtain ⟨v19, er, m9, e9', n9, f9, rfl, ii, be, hback⟩:=hen.form
   obtain ⟨A5, c5, B5, d5, rfl, ia, ib⟩:=ii.form
   replace L:=(((L.step be).n ib).n ia).swap
   clear be ii ia ib hen
   have HBK:=Hd9 hback
   clear hback
   clear c00 c01 c02 c20 c21 c22
   obtain ⟨c00,c01,c02,c03,c04,c05⟩:=L.b0.a6
   obtain ⟨f00,f01,f02,f03,f04,f05⟩:=L.b0.f6
   go_wp2_with fail
   have LP:=L.putI (by omega) (by first | (simp; done) | (simp; omega)) (ng m9) A5 (zl m9) c5 e9' (ng n9) B5 (zl n9) d5 f9
   have k0':=LP.b0.c60
   have k1':=LP.b0.c61
   have k2':=LP.b0.c62
   have k3':=LP.b0.c63
   have k4':=LP.b0.c64
   have k5':=LP.b0.c65
   unfold put6 at k0' k1' k2' k3' k4' k5'
   exact bodyPost_ret (v:=.tuple #[.agg #[.bool (ng m9), .slice A5 (zl m9) c5, .int .i64 e9', .bool (ng n9), .slice B5 (zl n9) d5, .int .i64 f9], .int .i64 er]) (by simp [results, Tryz.results181, go_sem, k0', k1', k2', k3', k4', k5']) rfl (HBK.out _ _ _ (isI_n (LP.getN (by simp)) (LP.getN (by simp))) LP.below)


end Go.Proofs.YtmgbjldogggpcaaGreatDoor
