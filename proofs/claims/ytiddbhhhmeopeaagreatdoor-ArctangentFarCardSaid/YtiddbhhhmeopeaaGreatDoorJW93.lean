/- Joined: RefLnD, RefAtB, AtR, AtS, IvPC, IvPD, IvPE, AtK, LnW, AtT, RefCoF, RefAtC, RefCoI, RefCoJ, ExQ (what the law leans on). -/
import Derived.Test.YtiddbhhhmeopeaaGreatDoorBaseJW9
import Derived.Test.YtiddbhhhmeopeaaGreatDoorBaseEW9
import Derived.Test.YtiddbhhhmeopeaaGreatDoorBaseMW9
import Derived.Test.YtiddbhhhmeopeaaGreatDoorBaseVW9
import Derived.Test.YtiddbhhhmeopeaaGreatDoorBaseFW9
import Derived.Test.YtiddbhhhmeopeaaGreatDoorBaseWW9
import Derived.Test.YtiddbhhhmeopeaaGreatDoorBaseGW9
import Derived.Test.YtiddbhhhmeopeaaGreatDoorBaseXW9
import Derived.Test.YtiddbhhhmeopeaaGreatDoorGrPCW9
import Derived.Test.YtiddbhhhmeopeaaGreatDoorBaseZW9
import Derived.Test.YtiddbhhhmeopeaaGreatDoorBaseUW9
import Derived.Test.YtiddbhhhmeopeaaGreatDoorJW91
import Derived.Test.YtiddbhhhmeopeaaGreatDoorJW92
import Derived.Deep.Cut
import Derived.Deep.CutRange
import Derived.Deep.DrawnRows
import Derived.Deep.RegionHeld3
import Derived.Lib.SliceRun
namespace Go.Proofs.YtiddbhhhmeopeaaGreatDoor
set_option maxHeartbeats 64000000
open Go.RowKit
set_option linter.unusedVariables false
set_option linter.unusedSimpArgs false
set_option maxRecDepth 100000
attribute [local go_sem ↓] Go.wp_at_zero Go.wp_at_succ

theorem alloc_sz15 (w:World) (o:Obj):(w.alloc o).heap.size = w.heap.size + 1:=by simp
theorem keep4 {V W:World} {g0 j0:Nat} {v0:Value} {g1 j1:Nat} {v1:Value} {g2 j2:Nat} {v2:Value} {g3 j3:Nat} {v3:Value} (q0:∀ Z,Below V.heap.size V Z → Z.cell? ⟨g0,j0,none⟩ = some v0) (q1:∀ Z,Below V.heap.size V Z → Z.cell? ⟨g1,j1,none⟩ = some v1) (q2:∀ Z,Below V.heap.size V Z → Z.cell? ⟨g2,j2,none⟩ = some v2) (q3:∀ Z,Below V.heap.size V Z → Z.cell? ⟨g3,j3,none⟩ = some v3) (h:Below V.heap.size V W):W.cell? ⟨g0,j0,none⟩ = some v0∧W.cell? ⟨g1,j1,none⟩ = some v1∧W.cell? ⟨g2,j2,none⟩ = some v2∧W.cell? ⟨g3,j3,none⟩ = some v3:=⟨q0 _ h,q1 _ h,q2 _ h,q3 _ h⟩
theorem keep8 {V W:World} {g0 j0:Nat} {v0:Value} {g1 j1:Nat} {v1:Value} {g2 j2:Nat} {v2:Value} {g3 j3:Nat} {v3:Value} {g4 j4:Nat} {v4:Value} {g5 j5:Nat} {v5:Value} {g6 j6:Nat} {v6:Value} {g7 j7:Nat} {v7:Value} (q0:∀ Z,Below V.heap.size V Z → Z.cell? ⟨g0,j0,none⟩ = some v0) (q1:∀ Z,Below V.heap.size V Z → Z.cell? ⟨g1,j1,none⟩ = some v1) (q2:∀ Z,Below V.heap.size V Z → Z.cell? ⟨g2,j2,none⟩ = some v2) (q3:∀ Z,Below V.heap.size V Z → Z.cell? ⟨g3,j3,none⟩ = some v3) (q4:∀ Z,Below V.heap.size V Z → Z.cell? ⟨g4,j4,none⟩ = some v4) (q5:∀ Z,Below V.heap.size V Z → Z.cell? ⟨g5,j5,none⟩ = some v5) (q6:∀ Z,Below V.heap.size V Z → Z.cell? ⟨g6,j6,none⟩ = some v6) (q7:∀ Z,Below V.heap.size V Z → Z.cell? ⟨g7,j7,none⟩ = some v7) (h:Below V.heap.size V W):W.cell? ⟨g0,j0,none⟩ = some v0∧W.cell? ⟨g1,j1,none⟩ = some v1∧W.cell? ⟨g2,j2,none⟩ = some v2∧W.cell? ⟨g3,j3,none⟩ = some v3∧W.cell? ⟨g4,j4,none⟩ = some v4∧W.cell? ⟨g5,j5,none⟩ = some v5∧W.cell? ⟨g6,j6,none⟩ = some v6∧W.cell? ⟨g7,j7,none⟩ = some v7:=⟨q0 _ h,q1 _ h,q2 _ h,q3 _ h,q4 _ h,q5 _ h,q6 _ h,q7 _ h⟩
theorem bl_alloc {a w:World} (o:Obj) (h:Below a.heap.size a w):Below a.heap.size a (w.alloc o):=h.alloc h.size o
theorem bl_set {a w:World} {g j:Nat} (u:Value) (h:Below a.heap.size a w) (hp:a.heap.size≤g):Below a.heap.size a (w.setCell ⟨g,j,none⟩ u):=h.setCell hp u
theorem c_set15 {w:World} {g j k i:Nat} {v u:Value} (h:w.cell? ⟨g,j,none⟩ = some v) (hne:g ≠ k):(w.setCell ⟨k,i,none⟩ u).cell? ⟨g,j,none⟩ = some v:=by
 rw [World.cell?_of_block (w:=w) (a:=⟨g,j,none⟩) (heap_setCell_other w ⟨k,i,none⟩ g u hne)]
 exact h
theorem drew_sz15 (w:World):w.drew.heap.size = w.heap.size:=rfl
theorem calls_sync2 {w0 w:World} {ns:List (Value × Nat)} {zs:List (Value × Int)} {qs:List (Value × Int × Nat)} {bs:List (Nat × TypeId × Array Value)} {F:Nat} {a:Array Value} {P:Ending → World → Prop} (h:Dq w0 w ns zs qs bs) (k:Dq w0 w ns zs qs bs → Calls Tryz.prog F a w P):Calls Tryz.prog F a w P:=k h
theorem isN_z15 {w:World} {s:Value} {z:Int} (h:IsZ w (.agg #[.bool (ng z),s]) z):IsN w s z.natAbs:=by
 obtain ⟨s',e,hs⟩:=h
 have e2:s = s':=by simpa using e
 rw [e2]
 exact hs
section
variable {w0 w:World} {ns:List (Value × Nat)} {zs:List (Value × Int)} {qs:List (Value × Int × Nat)} {bs:List (Nat × TypeId × Array Value)}
theorem Dq.boxR2 (h:Dq w0 w ns zs qs bs) (b:Bool) (A:Option Addr) (p c:Nat) (b':Bool) (B:Option Addr) (q d:Nat):Dq w0 (w.alloc (.cells #[.bool b,.slice A p c,.bool b',.slice B q d] 24)) ns zs qs ((w.heap.size,24,#[.bool b,.slice A p c,.bool b',.slice B q d]) :: bs):=by
 refine ⟨h.lq.var w.heap.size rfl _ _ (plain4 _ _ _ _ _ _ _ _),?_,fun p hp => ?_⟩
 ·rw [List.map_cons,List.nodup_cons]
  refine ⟨fun hm => ?_,h.nodup⟩
  obtain ⟨r,hr,e⟩:=List.mem_map.1 hm
  have:=(h.lq.bs r hr).lt
  simp only at e
  omega
 ·simp only [List.mem_cons] at hp
  rcases hp with rfl | hp
  ·exact h.lq.below.size
  ·exact h.ge p hp
theorem Dq.one (h:Dq w0 w ns zs qs bs) {p:Nat × TypeId × Array Value} (hp:p ∈ bs):Dq w0 w ns zs qs [p]:=
 ⟨⟨h.lq.below,h.lq.ns,h.lq.zs,h.lq.qs,fun x hx => h.lq.bs x (by rw [List.mem_singleton] at hx;rw [hx];exact hp)⟩,by simp,fun x hx => h.ge x (by rw [List.mem_singleton] at hx;rw [hx];exact hp)⟩
theorem Dq.two (h:Dq w0 w ns zs qs bs) {p q:Nat × TypeId × Array Value} (hp:p ∈ bs) (hq:q ∈ bs) (hne:p.1 ≠ q.1):Dq w0 w ns zs qs [p,q]:=
 ⟨⟨h.lq.below,h.lq.ns,h.lq.zs,h.lq.qs,fun x hx => h.lq.bs x (by simp only [List.mem_cons,List.not_mem_nil,or_false] at hx;rcases hx with rfl | rfl <;> assumption)⟩,by simpa using hne,fun x hx => h.ge x (by simp only [List.mem_cons,List.not_mem_nil,or_false] at hx;rcases hx with rfl | rfl <;> assumption)⟩
end
def Made2S (w0:World) (a b a2 b2:Int) (s1 s2:Value) (w':World):Prop:=∃ g1 g2 A c B d A2 c2 B2 d2,s1 = .pointer (some ⟨g1,0,none⟩)∧s2 = .pointer (some ⟨g2,0,none⟩)∧w0.heap.size≤g1∧w0.heap.size≤g2∧g1 ≠ g2∧Below w0.heap.size w0 w'∧Var w' g1 53 #[.bool (ng a),.slice A (zl a) c,.bool (ng b),.slice B (zl b) d]∧Var w' g2 53 #[.bool (ng a2),.slice A2 (zl a2) c2,.bool (ng b2),.slice B2 (zl b2) d2]∧(IsN w' (.slice A (zl a) c) a.natAbs∧IsN w' (.slice B (zl b) d) b.natAbs)∧IsN w' (.slice A2 (zl a2) c2) a2.natAbs∧IsN w' (.slice B2 (zl b2) d2) b2.natAbs
section
variable {w0 w:World} {ns:List (Value × Nat)} {zs:List (Value × Int)} {qs:List (Value × Int × Nat)} {bs:List (Nat × TypeId × Array Value)} {a b a2 b2:Int} {c d c2 d2:Nat} {A B A2 B2:Option Addr}
theorem made2s_of {w':World} {g1 g2:Nat} (D:Dq w0 w' ns zs qs [(g1,53,#[.bool (ng a),.slice A (zl a) c,.bool (ng b),.slice B (zl b) d]),(g2,53,#[.bool (ng a2),.slice A2 (zl a2) c2,.bool (ng b2),.slice B2 (zl b2) d2])]) (h1:(.slice A (zl a) c,a.natAbs) ∈ ns) (h2:(.slice B (zl b) d,b.natAbs) ∈ ns) (h3:(.slice A2 (zl a2) c2,a2.natAbs) ∈ ns) (h4:(.slice B2 (zl b2) d2,b2.natAbs) ∈ ns):Made2S w0 a b a2 b2 (.pointer (some ⟨g1,0,none⟩)) (.pointer (some ⟨g2,0,none⟩)) w':=by
 have hn:=D.nodup
 simp only [List.map_cons,List.map_nil,List.nodup_cons,List.mem_cons,List.not_mem_nil,or_false] at hn
 exact ⟨g1,g2,A,c,B,d,A2,c2,B2,d2,rfl,rfl,D.ge _ (List.mem_cons_self ..),D.ge _ (List.mem_cons_of_mem _ (List.mem_cons_self ..)),hn.1,D.lq.below,D.lq.b0,D.lq.tl.b0,⟨D.getN h1,D.getN h2⟩,D.getN h3,D.getN h4⟩
theorem put4_size (w:World) (g:Nat) (b:Bool) (s:Value) (b':Bool) (s':Value):(put4 w g b s b' s').heap.size = w.heap.size:=by
 unfold put4
 simp
theorem Dq.swapS {p q:Nat × TypeId × Array Value} (h:Dq w0 w ns zs qs [p,q]):Dq w0 w ns zs qs [q,p]:=by
 have hn:=h.nodup
 simp only [List.map_cons,List.map_nil,List.nodup_cons,List.mem_cons,List.not_mem_nil,or_false] at hn
 exact h.two (by simp) (by simp) (fun e => hn.1 e.symm)
theorem made2s_a (D0:Dq w0 w ns zs qs bs) (h1:(.slice A (zl a) c,a.natAbs) ∈ ns) (h2:(.slice B (zl b) d,b.natAbs) ∈ ns) (h3:(.slice A2 (zl a2) c2,a2.natAbs) ∈ ns) (h4:(.slice B2 (zl b2) d2,b2.natAbs) ∈ ns):Made2S w0 a b a2 b2 (.pointer (some ⟨w.heap.size,0,none⟩)) (.pointer (some ⟨w.heap.size + 1,0,none⟩)) ((w.alloc (.cells #[.bool (ng a),.slice A (zl a) c,.bool (ng b),.slice B (zl b) d] 53)).alloc (.cells #[.bool (ng a2),.slice A2 (zl a2) c2,.bool (ng b2),.slice B2 (zl b2) d2] 53)):=by
 have E:=(D0.boxS (ng a) A (zl a) c (ng b) B (zl b) d).boxS (ng a2) A2 (zl a2) c2 (ng b2) B2 (zl b2) d2
 rw [alloc_sz15] at E
 exact made2s_of (E.two (by simp) (by simp) (by simp)) h1 h2 h3 h4
theorem made2s_b (D0:Dq w0 w ns zs qs bs) (h1:(.slice A (zl a) c,a.natAbs) ∈ ns) (h2:(.slice B (zl b) d,b.natAbs) ∈ ns) (h3:(.slice A2 (zl a2) c2,a2.natAbs) ∈ ns) (h4:(.slice B2 (zl b2) d2,b2.natAbs) ∈ ns):Made2S w0 a b a2 b2 (.pointer (some ⟨w.heap.size + 1,0,none⟩)) (.pointer (some ⟨w.heap.size,0,none⟩)) ((w.alloc (.cells #[.bool (ng a2),.slice A2 (zl a2) c2,.bool (ng b2),.slice B2 (zl b2) d2] 53)).alloc (.cells #[.bool (ng a),.slice A (zl a) c,.bool (ng b),.slice B (zl b) d] 53)):=by
 have E:=(D0.boxS (ng a2) A2 (zl a2) c2 (ng b2) B2 (zl b2) d2).boxS (ng a) A (zl a) c (ng b) B (zl b) d
 rw [alloc_sz15] at E
 exact made2s_of (E.two (by simp) (by simp) (by simp)) h1 h2 h3 h4
theorem made2s_c {g:Nat} {x y:Bool} {s s':Value} (D0:Dq w0 w ns zs qs bs) (hm:(g,53,#[.bool x,s,.bool y,s']) ∈ bs) (h1:(.slice A (zl a) c,a.natAbs) ∈ ns) (h2:(.slice B (zl b) d,b.natAbs) ∈ ns) (h3:(.slice A2 (zl a2) c2,a2.natAbs) ∈ ns) (h4:(.slice B2 (zl b2) d2,b2.natAbs) ∈ ns):Made2S w0 a b a2 b2 (.pointer (some ⟨g,0,none⟩)) (.pointer (some ⟨w.heap.size,0,none⟩)) (((((w.setCell ⟨g,0,none⟩ (.bool (ng a))).setCell ⟨g,1,none⟩ (.slice A (zl a) c)).setCell ⟨g,2,none⟩ (.bool (ng b))).setCell ⟨g,3,none⟩ (.slice B (zl b) d)).alloc (.cells #[.bool (ng a2),.slice A2 (zl a2) c2,.bool (ng b2),.slice B2 (zl b2) d2] 53)):=by
 have E:=((D0.one hm).putS g (ng a) A (zl a) c (ng b) B (zl b) d).boxMS (put4_size _ _ _ _ _ _) (ng a2) A2 (zl a2) c2 (ng b2) B2 (zl b2) d2
 unfold put4 at E
 exact made2s_of E.swapS h1 h2 h3 h4
theorem made2s_d {g:Nat} {x y:Bool} {s s':Value} (D0:Dq w0 w ns zs qs bs) (hm:(g,53,#[.bool x,s,.bool y,s']) ∈ bs) (h1:(.slice A (zl a) c,a.natAbs) ∈ ns) (h2:(.slice B (zl b) d,b.natAbs) ∈ ns) (h3:(.slice A2 (zl a2) c2,a2.natAbs) ∈ ns) (h4:(.slice B2 (zl b2) d2,b2.natAbs) ∈ ns):Made2S w0 a b a2 b2 (.pointer (some ⟨w.heap.size,0,none⟩)) (.pointer (some ⟨g,0,none⟩)) (((((w.setCell ⟨g,0,none⟩ (.bool (ng a2))).setCell ⟨g,1,none⟩ (.slice A2 (zl a2) c2)).setCell ⟨g,2,none⟩ (.bool (ng b2))).setCell ⟨g,3,none⟩ (.slice B2 (zl b2) d2)).alloc (.cells #[.bool (ng a),.slice A (zl a) c,.bool (ng b),.slice B (zl b) d] 53)):=by
 have E:=((D0.one hm).putS g (ng a2) A2 (zl a2) c2 (ng b2) B2 (zl b2) d2).boxMS (put4_size _ _ _ _ _ _) (ng a) A (zl a) c (ng b) B (zl b) d
 unfold put4 at E
 exact made2s_of E h1 h2 h3 h4
theorem made2s_e {g k:Nat} {x y x' y':Bool} {s s' r r':Value} (D0:Dq w0 w ns zs qs bs) (hm:(g,53,#[.bool x,s,.bool y,s']) ∈ bs) (hk:(k,53,#[.bool x',r,.bool y',r']) ∈ bs) (hne:g ≠ k) (h1:(.slice A (zl a) c,a.natAbs) ∈ ns) (h2:(.slice B (zl b) d,b.natAbs) ∈ ns) (h3:(.slice A2 (zl a2) c2,a2.natAbs) ∈ ns) (h4:(.slice B2 (zl b2) d2,b2.natAbs) ∈ ns):Made2S w0 a b a2 b2 (.pointer (some ⟨g,0,none⟩)) (.pointer (some ⟨k,0,none⟩)) ((((((((w.setCell ⟨g,0,none⟩ (.bool (ng a))).setCell ⟨g,1,none⟩ (.slice A (zl a) c)).setCell ⟨g,2,none⟩ (.bool (ng b))).setCell ⟨g,3,none⟩ (.slice B (zl b) d)).setCell ⟨k,0,none⟩ (.bool (ng a2))).setCell ⟨k,1,none⟩ (.slice A2 (zl a2) c2)).setCell ⟨k,2,none⟩ (.bool (ng b2))).setCell ⟨k,3,none⟩ (.slice B2 (zl b2) d2)):=by
 have E:=(((D0.two hm hk hne).putS g (ng a) A (zl a) c (ng b) B (zl b) d).swapS).putS k (ng a2) A2 (zl a2) c2 (ng b2) B2 (zl b2) d2
 unfold put4 at E
 exact made2s_of E.swapS h1 h2 h3 h4
end

theorem s13div_any (a b m n:Int) (v:Nat) (vx vy:Value) (w:World) (hx:IsS w vx a b) (hy:IsS w vy m n) (la:zl a≤1000) (lb:zl b≤1000) (lm:zl m≤1000) (ln:zl n≤1000) (hab:a≤b) (hm:0 < m) (hn0:0 < n) (hv:v≤1000) :
  Calls Tryz.prog 67 #[vx,vy,.int .i64 (v:Int)] w (RetSp w (mn4 (a * 2 ^ v / m) (cdv (b * 2 ^ v) m) (a * 2 ^ v / n) (cdv (b * 2 ^ v) n)) (mx4 (a * 2 ^ v / m) (cdv (b * 2 ^ v) m) (a * 2 ^ v / n) (cdv (b * 2 ^ v) n))):=by
 obtain ⟨A,c,B,d,rfl,hn1,hn2⟩:=hx.form
 obtain ⟨E,k,G,i,rfl,hn3,hn4⟩:=hy.form
 have L0:=((((Lq.mk0 w).n hn4).n hn3).n hn2).n hn1
 have pv:=pow2_pos v
 have hXY:a * 2 ^ v≤b * 2 ^ v:=Int.mul_le_mul_of_nonneg_right hab (Int.le_of_lt pv)
 have zX:=zl_shl a v
 have zY:=zl_shl b v
 have g1:=fun x W h => rzshl_any a x W h (by omega) v (by omega)
 have g2:=fun x W h => rzshl_any b x W h (by omega) v (by omega)
 obtain ⟨X,hX⟩:=nm9 (a * 2 ^ v)
 obtain ⟨Y,hY⟩:=nm9 (b * 2 ^ v)
 rw [hX] at g1 zX hXY ⊢
 rw [hY] at g2 zY hXY ⊢
 have g3:=fun v u W (h:RowZ W v [X,Y]) k => s13hull_any [X,Y] X Y m v u W h k (by simp) (by simp) (fun p hp => by
  simp only [List.mem_cons,List.not_mem_nil,or_false] at hp
  rcases hp with rfl | rfl <;> omega) (lst_2 hXY) (mst_2 hXY) (by omega) hm
 have g4:=fun v u W (h:RowZ W v [X,Y]) k => s13hull_any [X,Y] X Y n v u W h k (by simp) (by simp) (fun p hp => by
  simp only [List.mem_cons,List.not_mem_nil,or_false] at hp
  rcases hp with rfl | rfl <;> omega) (lst_2 hXY) (mst_2 hXY) (by omega) hn0
 have y1:=zl_floor X hm
 have y2:=zl_cdv Y hm
 have y3:=zl_floor X hn0
 have y4:=zl_cdv Y hn0
 obtain ⟨p1,hp1⟩:=nm9 (X / m)
 obtain ⟨p2,hp2⟩:=nm9 (cdv Y m)
 obtain ⟨p3,hp3⟩:=nm9 (X / n)
 obtain ⟨p4,hp4⟩:=nm9 (cdv Y n)
 rw [hp1] at g3 y1 ⊢
 rw [hp2] at g3 y2 ⊢
 rw [hp3] at g4 y3 ⊢
 rw [hp4] at g4 y4 ⊢
 obtain ⟨o,ho⟩:∃ o:Int,1 = o:=⟨_,rfl⟩
 have zo:zl o≤1:=len_le1 (x:=o.natAbs) (by omega)
 have g5:=fun W => (rzof_any 1 W (by omega) (by omega)).mono (fun e w' h => (show RetZ W o e w' by rw [← ho];exact h))
 have hlo:=lst_4 p1 p2 p3 p4
 have hhi:=mst_4 p1 p2 p3 p4
 have g6:=fun v u W (h:RowZ W v [p1,p2,p3,p4]) k => s13hull_any [p1,p2,p3,p4] (mn4 p1 p2 p3 p4) (mx4 p1 p2 p3 p4) o v u W h k (by simp) (by simp) (fun p hp => by
  simp only [List.mem_cons,List.not_mem_nil,or_false] at hp
  rcases hp with rfl | rfl | rfl | rfl <;> omega) hlo hhi (by omega) (by omega)
 obtain ⟨R,hR⟩:=nm9 (mn4 p1 p2 p3 p4)
 obtain ⟨S,hS⟩:=nm9 (mx4 p1 p2 p3 p4)
 rw [hR] at g6 ⊢
 rw [hS] at g6 ⊢
 have e1:R / o = R:=by rw [← ho];exact Int.ediv_one R
 have e2:cdv S o = S:=by rw [← ho];exact cdv_one S
 rw [e1,e2] at g6
 clear hXY zX zY y1 y2 y3 y4 hp1 hp2 hp3 hp4 ho zo hlo hhi hR hS e1 e2 hX hY hx hy hn1 hn2 hn3 hn4 la lb lm ln hab hm hn0 hv pv
 have G1:=Hd9 g1
 have G2:=Hd9 g2
 have G3:=Hd9 g3
 have G4:=Hd9 g4
 have G5:=Hd9 g5
 have G6:=Hd9 g6
 clear g1 g2 g3 g4 g5 g6
 go_enter Tryz.func67,Tryz.ntmps67
 go_wp2_with fail
 have L:=(((L0.varS (w.heap.size) (by simp) (ng a) A (zl a) c (ng b) B (zl b) d).varS (w.heap.size + 1) (by simp) (ng m) E (zl m) k (ng n) G (zl n) i).varS (w.heap.size + 2) (by simp) false none 0 0 false none 0 0)
 (try go_wp2_with fail)
 obtain ⟨V,hV,L9⟩:=L.name
 rw [hV]
 clear hV L
 have L:=L9
 clear L9
 have Q0:=Hd9 (fun Z (hZ:Below V.heap.size V Z) => (L.tl.tl.b0.mono hZ).c40)
 have Q1:=Hd9 (fun Z (hZ:Below V.heap.size V Z) => (L.tl.tl.b0.mono hZ).c41)
 have Q2:=Hd9 (fun Z (hZ:Below V.heap.size V Z) => (L.tl.tl.b0.mono hZ).c42)
 have Q3:=Hd9 (fun Z (hZ:Below V.heap.size V Z) => (L.tl.tl.b0.mono hZ).c43)
 have hb0:=L.tl.tl.b0.lt
 have D0:Dq V V [(.slice A (zl a) c,(a:Int).natAbs),(.slice B (zl b) d,(b:Int).natAbs)] [] [] []:=⟨(((Lq.mk0 V).n (L.getN (v:=.slice B (zl b) d) (x:=(b:Int).natAbs) (by simp))).n (L.getN (v:=.slice A (zl a) c) (x:=(a:Int).natAbs) (by simp))),List.nodup_nil,fun p hp => by cases hp⟩
 have D:=D0.drew
 have hVw:=L.below.size
 have LL:=Hd9 L
 clear L
 obtain ⟨K,hK⟩:=nm9 (V.heap.size)
 have hz0:K≤V.heap.size:=by omega
 have hmd:V.drew.heap.size = K:=hK
 have hc0:w.heap.size < K:=by omega
 go_cut [7,8] from 11 to 19 (fun s7 s8 wx => Made2Z V X Y s7 s8 wx)
 case first =>
  go_region_held3 (fun w' => w'.cell? ⟨w.heap.size,0,none⟩ = some (.bool (ng a))∧w'.cell? ⟨w.heap.size,1,none⟩ = some (.slice A (zl a) c)∧w'.cell? ⟨w.heap.size,2,none⟩ = some (.bool (ng b))∧w'.cell? ⟨w.heap.size,3,none⟩ = some (.slice B (zl b) d)) (((try dsimp only);refine keep4 Q0.out Q1.out Q2.out Q3.out ?_;(repeat (first | (with_reducible exact D.lq.below) | (with_reducible exact D0.lq.below) | (with_reducible refine Below.drew ?_) | (with_reducible refine bl_alloc _ ?_) | (with_reducible refine bl_set _ ?_ (by omega)))))) (first | (go_at_call 85;(with_reducible refine (G1.out _ _ ?_).mono ?_);(· (first | ((with_reducible refine isZ_s (D.getN ?_));(repeat (first | (with_reducible exact mS) | apply mT));done) | ((with_reducible refine isZ_s ((D.boxZ false none 0 0).getN ?_));(repeat (first | (with_reducible exact mS) | apply mT));done) | ((with_reducible refine isZ_s ((D.boxZ2 false none 0 0 false none 0 0).getN ?_));(repeat (first | (with_reducible exact mS) | apply mT));done) | ((with_reducible refine isZ_s ((D0.boxZ false none 0 0).drew.getN ?_));(repeat (first | (with_reducible exact mS) | apply mT));done) | ((with_reducible refine isZ_s ((D0.boxZ2 false none 0 0 false none 0 0).drew.getN ?_));(repeat (first | (with_reducible exact mS) | apply mT));done)));rintro e9 wh ⟨vh,rfl,iz,be⟩;(first | (replace D:=D.step be) | (replace D:=(D.boxMZ hmd false none 0 0).step be) | (replace D:=(D.boxMZ2 hmd false none 0 0 false none 0 0).step be) | (replace D:=(D.boxZ false none 0 0).step be) | (replace D:=(D.boxZ2 false none 0 0 false none 0 0).step be));have hz:=be.size;(try simp at hz);replace D:=D.z iz;obtain ⟨A5,c5,rfl,_⟩:=iz.form;clear iz;(try (obtain ⟨q000,q001⟩:=D.lq.b0.a2;obtain ⟨q002,q003⟩:=D.lq.b0.f2));(try (have q010:=(D.alloc (.cells #[.bool false,.slice none 0 0] 24)).lq.b0.c20;have q011:=(D.alloc (.cells #[.bool false,.slice none 0 0] 24)).lq.b0.c21;have q012:=(D.alloc (.cells #[.bool false,.slice none 0 0] 24)).lq.b0.fr 0;have q013:=(D.alloc (.cells #[.bool false,.slice none 0 0] 24)).lq.b0.fr 1));(try (have q020:=((D.alloc (.cells #[.bool false,.slice none 0 0] 24)).alloc (.cells #[.bool false,.slice none 0 0] 24)).lq.b0.c20;have q021:=((D.alloc (.cells #[.bool false,.slice none 0 0] 24)).alloc (.cells #[.bool false,.slice none 0 0] 24)).lq.b0.c21;have q022:=((D.alloc (.cells #[.bool false,.slice none 0 0] 24)).alloc (.cells #[.bool false,.slice none 0 0] 24)).lq.b0.fr 0;have q023:=((D.alloc (.cells #[.bool false,.slice none 0 0] 24)).alloc (.cells #[.bool false,.slice none 0 0] 24)).lq.b0.fr 1));(try (obtain ⟨q100,q101⟩:=D.lq.tl.b0.a2;obtain ⟨q102,q103⟩:=D.lq.tl.b0.f2));(try (have q110:=(D.alloc (.cells #[.bool false,.slice none 0 0] 24)).lq.tl.b0.c20;have q111:=(D.alloc (.cells #[.bool false,.slice none 0 0] 24)).lq.tl.b0.c21;have q112:=(D.alloc (.cells #[.bool false,.slice none 0 0] 24)).lq.tl.b0.fr 0;have q113:=(D.alloc (.cells #[.bool false,.slice none 0 0] 24)).lq.tl.b0.fr 1));(try (have q120:=((D.alloc (.cells #[.bool false,.slice none 0 0] 24)).alloc (.cells #[.bool false,.slice none 0 0] 24)).lq.tl.b0.c20;have q121:=((D.alloc (.cells #[.bool false,.slice none 0 0] 24)).alloc (.cells #[.bool false,.slice none 0 0] 24)).lq.tl.b0.c21;have q122:=((D.alloc (.cells #[.bool false,.slice none 0 0] 24)).alloc (.cells #[.bool false,.slice none 0 0] 24)).lq.tl.b0.fr 0;have q123:=((D.alloc (.cells #[.bool false,.slice none 0 0] 24)).alloc (.cells #[.bool false,.slice none 0 0] 24)).lq.tl.b0.fr 1));(try obtain ⟨na,nb,nc,nd,nl⟩:=D.n0);(try obtain ⟨ne,nf,ng',nh,nm⟩:=D.n1);(try obtain ⟨ni,nj⟩:=D.n01)) | (go_at_call 85;(with_reducible refine (G2.out _ _ ?_).mono ?_);(· (first | ((with_reducible refine isZ_s (D.getN ?_));(repeat (first | (with_reducible exact mS) | apply mT));done) | ((with_reducible refine isZ_s ((D.boxZ false none 0 0).getN ?_));(repeat (first | (with_reducible exact mS) | apply mT));done) | ((with_reducible refine isZ_s ((D.boxZ2 false none 0 0 false none 0 0).getN ?_));(repeat (first | (with_reducible exact mS) | apply mT));done) | ((with_reducible refine isZ_s ((D0.boxZ false none 0 0).drew.getN ?_));(repeat (first | (with_reducible exact mS) | apply mT));done) | ((with_reducible refine isZ_s ((D0.boxZ2 false none 0 0 false none 0 0).drew.getN ?_));(repeat (first | (with_reducible exact mS) | apply mT));done)));rintro e9 wh ⟨vh,rfl,iz,be⟩;(first | (replace D:=D.step be) | (replace D:=(D.boxMZ hmd false none 0 0).step be) | (replace D:=(D.boxMZ2 hmd false none 0 0 false none 0 0).step be) | (replace D:=(D.boxZ false none 0 0).step be) | (replace D:=(D.boxZ2 false none 0 0 false none 0 0).step be));have hz:=be.size;(try simp at hz);replace D:=D.z iz;obtain ⟨A6,c6,rfl,_⟩:=iz.form;clear iz;(try (obtain ⟨q000,q001⟩:=D.lq.b0.a2;obtain ⟨q002,q003⟩:=D.lq.b0.f2));(try (have q010:=(D.alloc (.cells #[.bool false,.slice none 0 0] 24)).lq.b0.c20;have q011:=(D.alloc (.cells #[.bool false,.slice none 0 0] 24)).lq.b0.c21;have q012:=(D.alloc (.cells #[.bool false,.slice none 0 0] 24)).lq.b0.fr 0;have q013:=(D.alloc (.cells #[.bool false,.slice none 0 0] 24)).lq.b0.fr 1));(try (have q020:=((D.alloc (.cells #[.bool false,.slice none 0 0] 24)).alloc (.cells #[.bool false,.slice none 0 0] 24)).lq.b0.c20;have q021:=((D.alloc (.cells #[.bool false,.slice none 0 0] 24)).alloc (.cells #[.bool false,.slice none 0 0] 24)).lq.b0.c21;have q022:=((D.alloc (.cells #[.bool false,.slice none 0 0] 24)).alloc (.cells #[.bool false,.slice none 0 0] 24)).lq.b0.fr 0;have q023:=((D.alloc (.cells #[.bool false,.slice none 0 0] 24)).alloc (.cells #[.bool false,.slice none 0 0] 24)).lq.b0.fr 1));(try (obtain ⟨q100,q101⟩:=D.lq.tl.b0.a2;obtain ⟨q102,q103⟩:=D.lq.tl.b0.f2));(try (have q110:=(D.alloc (.cells #[.bool false,.slice none 0 0] 24)).lq.tl.b0.c20;have q111:=(D.alloc (.cells #[.bool false,.slice none 0 0] 24)).lq.tl.b0.c21;have q112:=(D.alloc (.cells #[.bool false,.slice none 0 0] 24)).lq.tl.b0.fr 0;have q113:=(D.alloc (.cells #[.bool false,.slice none 0 0] 24)).lq.tl.b0.fr 1));(try (have q120:=((D.alloc (.cells #[.bool false,.slice none 0 0] 24)).alloc (.cells #[.bool false,.slice none 0 0] 24)).lq.tl.b0.c20;have q121:=((D.alloc (.cells #[.bool false,.slice none 0 0] 24)).alloc (.cells #[.bool false,.slice none 0 0] 24)).lq.tl.b0.c21;have q122:=((D.alloc (.cells #[.bool false,.slice none 0 0] 24)).alloc (.cells #[.bool false,.slice none 0 0] 24)).lq.tl.b0.fr 0;have q123:=((D.alloc (.cells #[.bool false,.slice none 0 0] 24)).alloc (.cells #[.bool false,.slice none 0 0] 24)).lq.tl.b0.fr 1));(try obtain ⟨na,nb,nc,nd,nl⟩:=D.n0);(try obtain ⟨ne,nf,ng',nh,nm⟩:=D.n1);(try obtain ⟨ni,nj⟩:=D.n01)))
  all_goals
   go_wp2_with fail
   go_meet
   first
   | ((with_reducible refine made2z_a D ?_ ?_) <;> (repeat (first | (with_reducible exact mS) | apply mT)))
   | ((with_reducible refine made2z_b D ?_ ?_) <;> (repeat (first | (with_reducible exact mS) | apply mT)))
   | ((with_reducible refine made2z_c D ?_ ?_) <;> (repeat (first | (with_reducible exact mS) | apply mT)))
   | ((with_reducible refine made2z_d D ?_ ?_) <;> (repeat (first | (with_reducible exact mS) | apply mT)))
   | ((with_reducible refine made2z_e D ?_ ?_) <;> (repeat (first | (with_reducible exact mS) | apply mT)))
   | ((with_reducible refine made2z_f D ?_ ?_) <;> (repeat (first | (with_reducible exact mS) | apply mT)))
 case rest =>
  obtain ⟨g1,g2,A1,c1,A2,c2,rfl,rfl,hg1,hg2,hg3,bw,hb8,hb9,hz1,hz2⟩:=hcut
  have hgl:=LL.out.b0.lt
  have L:=(((((LL.out.step bw).n (isN_z15 hz2)).n (isN_z15 hz1))).b hb9).b hb8
  clear D D0 hmd LL hb8 hb9 hz1 hz2 bw hVw hz0 hK hc0 Q0 Q1 Q2 Q3 G1 G2
  generalize wc = wd1 at *
  (try go_wp2_with fail)
  obtain ⟨V2,hV,L9⟩:=L.name
  rw [hV]
  clear hV L
  have L:=L9
  clear L9
  have Q0:=Hd9 (fun Z (hZ:Below V2.heap.size V2 Z) => (L.b0.mono hZ).c20)
  have Q1:=Hd9 (fun Z (hZ:Below V2.heap.size V2 Z) => (L.b0.mono hZ).c21)
  have Q2:=Hd9 (fun Z (hZ:Below V2.heap.size V2 Z) => (L.tl.b0.mono hZ).c20)
  have Q3:=Hd9 (fun Z (hZ:Below V2.heap.size V2 Z) => (L.tl.b0.mono hZ).c21)
  have Q4:=Hd9 (fun Z (hZ:Below V2.heap.size V2 Z) => (L.tl.tl.tl.b0.mono hZ).c40)
  have Q5:=Hd9 (fun Z (hZ:Below V2.heap.size V2 Z) => (L.tl.tl.tl.b0.mono hZ).c41)
  have Q6:=Hd9 (fun Z (hZ:Below V2.heap.size V2 Z) => (L.tl.tl.tl.b0.mono hZ).c42)
  have Q7:=Hd9 (fun Z (hZ:Below V2.heap.size V2 Z) => (L.tl.tl.tl.b0.mono hZ).c43)
  have hb0:=L.b0.lt
  have hb1:=L.tl.b0.lt
  have hb2:=L.tl.tl.tl.b0.lt
  have D0:Dq V2 V2 [(.slice A1 (zl X) c1,(X:Int).natAbs),(.slice A2 (zl Y) c2,(Y:Int).natAbs),(.slice E (zl m) k,(m:Int).natAbs),(.slice G (zl n) i,(n:Int).natAbs)] [] [] []:=⟨(((((Lq.mk0 V2).n (L.getN (v:=.slice G (zl n) i) (x:=(n:Int).natAbs) (by simp))).n (L.getN (v:=.slice E (zl m) k) (x:=(m:Int).natAbs) (by simp))).n (L.getN (v:=.slice A2 (zl Y) c2) (x:=(Y:Int).natAbs) (by simp))).n (L.getN (v:=.slice A1 (zl X) c1) (x:=(X:Int).natAbs) (by simp))),List.nodup_nil,fun p hp => by cases hp⟩
  have D:=D0.drew
  have hVw:=L.below.size
  have LL:=Hd9 L
  clear L
  obtain ⟨K,hK⟩:=nm9 (V2.heap.size)
  have hz0:K≤V2.heap.size:=by omega
  have hmd:V2.drew.heap.size = K:=hK
  have hc0:g1 < K:=by omega
  have hc1:g2 < K:=by omega
  have hc2:w.heap.size + 1 < K:=by omega
  go_cut [9,10] from 19 to 31 (fun s9 s10 wx => Made2S V2 p1 p2 p3 p4 s9 s10 wx)
  case first =>
   go_region_held3 (fun w' => w'.cell? ⟨g1,0,none⟩ = some (.bool (ng X))∧w'.cell? ⟨g1,1,none⟩ = some (.slice A1 (zl X) c1)∧w'.cell? ⟨g2,0,none⟩ = some (.bool (ng Y))∧w'.cell? ⟨g2,1,none⟩ = some (.slice A2 (zl Y) c2)∧w'.cell? ⟨w.heap.size + 1,0,none⟩ = some (.bool (ng m))∧w'.cell? ⟨w.heap.size + 1,1,none⟩ = some (.slice E (zl m) k)∧w'.cell? ⟨w.heap.size + 1,2,none⟩ = some (.bool (ng n))∧w'.cell? ⟨w.heap.size + 1,3,none⟩ = some (.slice G (zl n) i)) (((try dsimp only);refine keep8 Q0.out Q1.out Q2.out Q3.out Q4.out Q5.out Q6.out Q7.out ?_;(repeat (first | (with_reducible exact D.lq.below) | (with_reducible exact D0.lq.below) | (with_reducible refine Below.drew ?_) | (with_reducible refine bl_alloc _ ?_) | (with_reducible refine bl_set _ ?_ (by omega)))))) (first | (go_at_call 79;((with_reducible apply calls_sync2);(repeat (first | (with_reducible exact D) | (with_reducible exact D0) | (with_reducible apply Dq.drew) | (with_reducible apply Dq.boxS) | (with_reducible apply Dq.boxR2)));intro D2;replace D:=D2;clear D2;(try simp only [alloc_sz15,drew_sz15,hK] at D));(first | ((with_reducible refine (G3.out _ _ _ ?_ ?_).mono ?_);(· ((with_reducible refine rowZ_2 (D.lq.bs (_,24,#[.bool (ng X),.slice A1 (zl X) c1,.bool (ng Y),.slice A2 (zl Y) c2]) ?_) (D.getN ?_) (D.getN ?_)) <;> (repeat (first | (with_reducible exact mS) | apply mT));done));(· ((with_reducible refine isZ_s (D.getN ?_));(repeat (first | (with_reducible exact mS) | apply mT));done));rintro e9 wh ⟨vh,rfl,iq,be⟩;obtain ⟨A5,c5,B5,d5,rfl,ia,ib⟩:=iq.form;have hs9:=be.size;(try simp only [alloc_sz15,drew_sz15,hK] at hs9);replace D:=((D.step be).n ib).n ia;clear iq ia ib be) | ((with_reducible refine (G4.out _ _ _ ?_ ?_).mono ?_);(· ((with_reducible refine rowZ_2 (D.lq.bs (_,24,#[.bool (ng X),.slice A1 (zl X) c1,.bool (ng Y),.slice A2 (zl Y) c2]) ?_) (D.getN ?_) (D.getN ?_)) <;> (repeat (first | (with_reducible exact mS) | apply mT));done));(· ((with_reducible refine isZ_s (D.getN ?_));(repeat (first | (with_reducible exact mS) | apply mT));done));rintro e9 wh ⟨vh,rfl,iq,be⟩;obtain ⟨A6,c6,B6,d6,rfl,ia,ib⟩:=iq.form;have hs9:=be.size;(try simp only [alloc_sz15,drew_sz15,hK] at hs9);replace D:=((D.step be).n ib).n ia;clear iq ia ib be));(first | (have hm2:=hm1;(try (have vb:Var _ _ 53 _:=D.lq.b0;obtain ⟨q01,q02,q03,q04⟩:=vb.a4;obtain ⟨q05,q06,q07,q08⟩:=vb.f4;have q09:=vb.lt;clear vb));(try (have vb:Var _ _ 53 _:=D.lq.tl.b0;obtain ⟨q11,q12,q13,q14⟩:=vb.a4;obtain ⟨q15,q16,q17,q18⟩:=vb.f4;have q19:=vb.lt;clear vb));(try (have vb:Var _ _ 53 _:=D.lq.tl.tl.b0;obtain ⟨q21,q22,q23,q24⟩:=vb.a4;obtain ⟨q25,q26,q27,q28⟩:=vb.f4;have q29:=vb.lt;clear vb));(try (have vb:Var _ _ 53 _:=D.lq.tl.tl.tl.b0;obtain ⟨q31,q32,q33,q34⟩:=vb.a4;obtain ⟨q35,q36,q37,q38⟩:=vb.f4;have q39:=vb.lt;clear vb))) | (have hm1:=True.intro))))
   all_goals
    go_wp2_with fail
    go_meet
    first
    | ((with_reducible refine made2s_a D ?_ ?_ ?_ ?_) <;> (repeat (first | (with_reducible exact mS) | apply mT)))
    | ((with_reducible refine made2s_b D ?_ ?_ ?_ ?_) <;> (repeat (first | (with_reducible exact mS) | apply mT)))
    | ((with_reducible apply made2s_c D) <;> (repeat (first | (with_reducible exact mS) | apply mT)))
    | ((with_reducible apply made2s_d D) <;> (repeat (first | (with_reducible exact mS) | apply mT)))
    | ((with_reducible apply made2s_e D) <;> (first | ((repeat (first | (with_reducible exact mS) | apply mT));done) | omega))
  case rest =>
   obtain ⟨gp,gq,A5,c5,B5,d5,A6,c6,B6,d6,rfl,rfl,hp1,hp2,hpq,bw,vp,vq,⟨i1,i2⟩,i3,i4⟩:=hcut
   have hr1:=LL.out.tl.tl.b0.lt
   have L:=((((((LL.out.step bw).n i4).n i3).n i2).n i1).b vq).b vp
   clear D D0 hmd LL vp vq i1 i2 i3 i4 bw hVw hz0 hK hc0 hc1 hc2 Q0 Q1 Q2 Q3 Q4 Q5 Q6 Q7 G3 G4
   generalize wc = wd2 at *
   (try go_wp2_with fail)
   obtain ⟨V3,hV,L9⟩:=L.name
   rw [hV]
   clear hV L
   have L:=L9
   clear L9
   have R0:=Hd9 (fun Z (hZ:Below V3.heap.size V3 Z) => L.tl.tl.tl.tl.b0.mono hZ)
   have Q0:=Hd9 (fun Z (hZ:Below V3.heap.size V3 Z) => (L.b0.mono hZ).c40)
   have Q1:=Hd9 (fun Z (hZ:Below V3.heap.size V3 Z) => (L.b0.mono hZ).c41)
   have Q2:=Hd9 (fun Z (hZ:Below V3.heap.size V3 Z) => (L.b0.mono hZ).c42)
   have Q3:=Hd9 (fun Z (hZ:Below V3.heap.size V3 Z) => (L.b0.mono hZ).c43)
   have Q4:=Hd9 (fun Z (hZ:Below V3.heap.size V3 Z) => (L.tl.b0.mono hZ).c40)
   have Q5:=Hd9 (fun Z (hZ:Below V3.heap.size V3 Z) => (L.tl.b0.mono hZ).c41)
   have Q6:=Hd9 (fun Z (hZ:Below V3.heap.size V3 Z) => (L.tl.b0.mono hZ).c42)
   have Q7:=Hd9 (fun Z (hZ:Below V3.heap.size V3 Z) => (L.tl.b0.mono hZ).c43)
   have hb0:=L.b0.lt
   have hb1:=L.tl.b0.lt
   have D0:Dq V3 V3 [(.slice A5 (zl p1) c5,(p1:Int).natAbs),(.slice B5 (zl p2) d5,(p2:Int).natAbs),(.slice A6 (zl p3) c6,(p3:Int).natAbs),(.slice B6 (zl p4) d6,(p4:Int).natAbs)] [] [] []:=⟨(((((Lq.mk0 V3).n (L.getN (v:=.slice B6 (zl p4) d6) (x:=(p4:Int).natAbs) (by simp))).n (L.getN (v:=.slice A6 (zl p3) c6) (x:=(p3:Int).natAbs) (by simp))).n (L.getN (v:=.slice B5 (zl p2) d5) (x:=(p2:Int).natAbs) (by simp))).n (L.getN (v:=.slice A5 (zl p1) c5) (x:=(p1:Int).natAbs) (by simp))),List.nodup_nil,fun p hp => by cases hp⟩
   have D:=D0.drew
   have hVw:=L.below.size
   have LL:=Hd9 L
   clear L
   obtain ⟨K,hK⟩:=nm9 (V3.heap.size)
   have hz0:K≤V3.heap.size:=by omega
   have hmd:V3.drew.heap.size = K:=hK
   have hc0:gp < K:=by omega
   have hc1:gq < K:=by omega
   go_region_held3 (fun w' => w'.cell? ⟨gp,0,none⟩ = some (.bool (ng p1))∧w'.cell? ⟨gp,1,none⟩ = some (.slice A5 (zl p1) c5)∧w'.cell? ⟨gp,2,none⟩ = some (.bool (ng p2))∧w'.cell? ⟨gp,3,none⟩ = some (.slice B5 (zl p2) d5)∧w'.cell? ⟨gq,0,none⟩ = some (.bool (ng p3))∧w'.cell? ⟨gq,1,none⟩ = some (.slice A6 (zl p3) c6)∧w'.cell? ⟨gq,2,none⟩ = some (.bool (ng p4))∧w'.cell? ⟨gq,3,none⟩ = some (.slice B6 (zl p4) d6)) (first | (((try dsimp only);refine keep8 Q0.out Q1.out Q2.out Q3.out Q4.out Q5.out Q6.out Q7.out ?_;(repeat (first | (with_reducible exact D.lq.below) | (with_reducible exact D0.lq.below) | (with_reducible refine Below.drew ?_) | (with_reducible refine bl_alloc _ ?_) | (with_reducible refine bl_set _ ?_ (by omega)))));done) | ((try dsimp only);refine ⟨?_,?_,?_,?_,?_,?_,?_,?_⟩ <;> (repeat (refine c_set15 ?_ (by omega))) <;> (first | (with_reducible exact Q0.out _ D.lq.below) | (with_reducible exact Q1.out _ D.lq.below) | (with_reducible exact Q2.out _ D.lq.below) | (with_reducible exact Q3.out _ D.lq.below) | (with_reducible exact Q4.out _ D.lq.below) | (with_reducible exact Q5.out _ D.lq.below) | (with_reducible exact Q6.out _ D.lq.below) | (with_reducible exact Q7.out _ D.lq.below)))) (first | (go_at_call 60;((with_reducible apply calls_sync2);(repeat (first | (with_reducible exact D) | (with_reducible exact D0) | (with_reducible apply Dq.drew) | (with_reducible apply Dq.boxR)));intro D2;replace D:=D2;clear D2;(try simp only [alloc_sz15,drew_sz15,hK] at D));(with_reducible refine (G5.out _).mono ?_);rintro e9 wh ⟨vh,rfl,iz,be⟩;obtain ⟨A7,c7,rfl,in9⟩:=iz.form;replace D:=(D.step be).n in9;clear iz in9 be) | (go_at_call 79;((with_reducible apply calls_sync2);(repeat (first | (with_reducible exact D) | (with_reducible exact D0) | (with_reducible apply Dq.drew) | (with_reducible apply Dq.boxR)));intro D2;replace D:=D2;clear D2;(try simp only [alloc_sz15,drew_sz15,hK] at D));(with_reducible refine (G6.out _ _ _ ?_ ?_).mono ?_);(· ((with_reducible refine rowZ_4 (D.lq.bs (_,24,#[.bool (ng p1),.slice A5 (zl p1) c5,.bool (ng p2),.slice B5 (zl p2) d5,.bool (ng p3),.slice A6 (zl p3) c6,.bool (ng p4),.slice B6 (zl p4) d6]) ?_) (D.getN ?_) (D.getN ?_) (D.getN ?_) (D.getN ?_)) <;> (repeat (first | (with_reducible exact mS) | apply mT));done));(· ((with_reducible refine isZ_s (D.getN ?_));(repeat (first | (with_reducible exact mS) | apply mT));done));rintro e9 wh ⟨vh,rfl,iq,be⟩;obtain ⟨A8,c8,B8,d8,rfl,ia,ib⟩:=iq.form;replace D:=((D.step be).n ib).n ia;clear iq ia ib be;have vb:=R0.out _ D.lq.below;obtain ⟨q0,q1,q2,q3⟩:=vb.a4;obtain ⟨r0,r1,r2,r3⟩:=vb.f4;clear vb))
   all_goals
    go_wp2_with fail
    have ia:=D.getN (v:=.slice A8 (zl R) c8) (x:=R.natAbs) (by simp)
    have ib:=D.getN (v:=.slice B8 (zl S) d8) (x:=S.natAbs) (by simp)
    have L9:=(((LL.out.step D.lq.below).n ib).n ia).subx (ns':=[(.slice A8 (zl R) c8,R.natAbs),(.slice B8 (zl S) d8,S.natAbs)]) (bs':=[(w.heap.size + 1 + 1,53,#[.bool false,.slice none 0 0,.bool false,.slice none 0 0])]) (by simp) (by simp)
    clear D D0 LL
    have L:=L9
    clear L9
    have LP:=L.putS (by omega) (by first | (simp;done) | (simp;omega)) (ng R) A8 (zl R) c8 (ng S) B8 (zl S) d8
    obtain ⟨k0,k1,k2,k3⟩:=LP.b0.a4
    unfold put4 at k0 k1 k2 k3
    exact bodyPost_ret (v:=.agg #[.bool (ng R),.slice A8 (zl R) c8,.bool (ng S),.slice B8 (zl S) d8]) (by simp [results,Tryz.results67,go_sem,k0,k1,k2,k3]) rfl ⟨_,rfl,isS_n (LP.getN (by simp)) (LP.getN (by simp)),LP.below⟩

theorem s16shrink_any (a b:Int) (n:Nat) (vx:Value) (w:World) (hx:IsS w vx a b) (la:zl a≤10000) (lb:zl b≤10000) (hn:n≤10000) :
  Calls Tryz.prog 69 #[vx,.int .i64 (n:Int)] w (RetSp w (a / 2 ^ n) (cdv b (2 ^ n))):=by
 obtain ⟨A,c,B,d,rfl,hn1,hn2⟩:=hx.form
 have L0:=((Lq.mk0 w).n hn2).n hn1
 have pv:=pow2_pos n
 unfold cdv
 have y1:=zl_neg b
 have y2:=zl_floor (-b) pv
 have h1:=fun x W h => rzshr_any a x W h (by omega) n (by omega)
 have h2:=fun x W h => rzneg_any b x W h (by omega)
 have h3:=fun x W h => rzshr_any (-b) x W h (by omega) n (by omega)
 have h4:=fun x W h => rzneg_any (-b / 2 ^ n) x W h (by omega)
 obtain ⟨x,hx⟩:=nm9 (a / 2 ^ n)
 rw [hx] at h1 ⊢
 obtain ⟨q,hq⟩:=nm9 (-b)
 rw [hq] at h2 h3 h4 ⊢
 obtain ⟨r,hr⟩:=nm9 (q / 2 ^ n)
 rw [hr] at h3 h4 ⊢
 obtain ⟨y,hy⟩:=nm9 (-r)
 rw [hy] at h4 ⊢
 have H1:=Hd9 h1
 clear h1
 have H2:=Hd9 h2
 clear h2
 have H3:=Hd9 h3
 clear h3
 have H4:=Hd9 h4
 clear h4
 clear y1 y2 hx hy hq hr hn1 hn2 la lb pv
 go_enter Tryz.func69,Tryz.ntmps69
 go_wp2_with fail
 have L:=((L0.varS (w.heap.size) (by simp) (ng a) A (zl a) c (ng b) B (zl b) d).varS (w.heap.size + 1) (by simp) false none 0 0 false none 0 0)
 replace L:=L.drew
 obtain ⟨c00,c01,c02,c03⟩:=L.b0.a4
 obtain ⟨f00,f01,f02,f03⟩:=L.b0.f4
 obtain ⟨c10,c11,c12,c13⟩:=L.tl.b0.a4
 go_region_held3 (fun w' => w'.cell? ⟨w.heap.size,0,none⟩ = some (.bool (ng a))∧w'.cell? ⟨w.heap.size,1,none⟩ = some (.slice A (zl a) c)∧w'.cell? ⟨w.heap.size,2,none⟩ = some (.bool (ng b))∧w'.cell? ⟨w.heap.size,3,none⟩ = some (.slice B (zl b) d)) (first | (with_reducible exact ⟨L.tl.b0.c40,L.tl.b0.c41,L.tl.b0.c42,L.tl.b0.c43⟩) | (have LP:=L.putS (by omega) (by first | (simp;done) | (simp;omega)) (ng x) A4 (zl x) c4 (ng y) A7 (zl y) c7;unfold put4 at LP;with_reducible exact ⟨LP.tl.b0.c40,LP.tl.b0.c41,LP.tl.b0.c42,LP.tl.b0.c43⟩) | exact ⟨L.tl.b0.c40,L.tl.b0.c41,L.tl.b0.c42,L.tl.b0.c43⟩) (first | (go_at_call 81;(with_reducible refine (H1.out _ _ ?_ ).mono ?_);(· (refine isZ_s (L.getN ?_);(repeat (first | (with_reducible exact mS) | apply mT))));rintro e wh ⟨vh,rfl,iz,be⟩;obtain ⟨A4,c4,rfl,in9⟩:=iz.form;replace L:=(L.step be).n in9;clear be iz in9;(try (obtain ⟨x00,x01,x02,x03⟩:=L.b0.a4;obtain ⟨y00,y01,y02,y03⟩:=L.b0.f4))) | (go_at_call 82;(with_reducible refine (H2.out _ _ ?_ ).mono ?_);(· (refine isZ_s (L.getN ?_);(repeat (first | (with_reducible exact mS) | apply mT))));rintro e wh ⟨vh,rfl,iz,be⟩;obtain ⟨A5,c5,rfl,in9⟩:=iz.form;replace L:=(L.step be).n in9;clear be iz in9;(try (obtain ⟨x00,x01,x02,x03⟩:=L.b0.a4;obtain ⟨y00,y01,y02,y03⟩:=L.b0.f4))) | (go_at_call 81;(with_reducible refine (H3.out _ _ ?_ ).mono ?_);(· (refine isZ_s (L.getN ?_);(repeat (first | (with_reducible exact mS) | apply mT))));rintro e wh ⟨vh,rfl,iz,be⟩;obtain ⟨A6,c6,rfl,in9⟩:=iz.form;replace L:=(L.step be).n in9;clear be iz in9;(try (obtain ⟨x00,x01,x02,x03⟩:=L.b0.a4;obtain ⟨y00,y01,y02,y03⟩:=L.b0.f4))) | (go_at_call 82;(with_reducible refine (H4.out _ _ ?_ ).mono ?_);(· (refine isZ_s (L.getN ?_);(repeat (first | (with_reducible exact mS) | apply mT))));rintro e wh ⟨vh,rfl,iz,be⟩;obtain ⟨A7,c7,rfl,in9⟩:=iz.form;replace L:=(L.step be).n in9;clear be iz in9;(try (obtain ⟨x00,x01,x02,x03⟩:=L.b0.a4;obtain ⟨y00,y01,y02,y03⟩:=L.b0.f4))))
 clear c00 f00 c01 f01 c02 f02 c03 f03 c10 c11 c12 c13
 go_wp2_with fail
 have LP:=L.putS (by omega) (by first | (simp;done) | (simp;omega)) (ng x) A4 (zl x) c4 (ng y) A7 (zl y) c7
 obtain ⟨k0,k1,k2,k3⟩:=LP.b0.a4
 unfold put4 at k0 k1 k2 k3
 exact bodyPost_ret (v:=.agg #[.bool (ng x),.slice A4 (zl x) c4,.bool (ng y),.slice A7 (zl y) c7]) (by simp [results,Tryz.results69,go_sem,k0,k1,k2,k3]) rfl ⟨_,rfl,isS_n (LP.getN (by simp)) (LP.getN (by simp)),LP.below⟩
def hfM (v:Nat) (a b:Int):Int:=2 ^ v + rtS (2 ^ v + msL v a b a b) v
def hfN (v:Nat) (a b:Int):Int:=2 ^ v + (rtS (2 ^ v + msH v a b a b) v + 1)
def hfL (v:Nat) (a b:Int):Int:=mn4 (a * 2 ^ v / hfM v a b) (cdv (b * 2 ^ v) (hfM v a b)) (a * 2 ^ v / hfN v a b) (cdv (b * 2 ^ v) (hfN v a b))
def hfH (v:Nat) (a b:Int):Int:=mx4 (a * 2 ^ v / hfM v a b) (cdv (b * 2 ^ v) (hfM v a b)) (a * 2 ^ v / hfN v a b) (cdv (b * 2 ^ v) (hfN v a b))
theorem rtS_nn (x:Int) (v:Nat):0≤rtS x v:=Int.natCast_nonneg _
theorem hfM_pos (v:Nat) (a b:Int):0 < hfM v a b:=by
 have:=pow2_pos v
 have:=rtS_nn (2 ^ v + msL v a b a b) v
 unfold hfM;omega
theorem hfN_pos (v:Nat) (a b:Int):0 < hfN v a b:=by
 have:=pow2_pos v
 have:=rtS_nn (2 ^ v + msH v a b a b) v
 unfold hfN;omega

theorem s16half_any (a b:Int) (v:Nat) (vx:Value) (w:World) (hx:IsS w vx a b) (la:zl a≤20) (lb:zl b≤20) (l1:zl (msL v a b a b)≤40) (l2:zl (msH v a b a b)≤40) (hab:a≤b) (hv:v≤600) :
  Calls Tryz.prog 126 #[vx,.int .i64 (v:Int)] w (RetSp w (hfL v a b) (hfH v a b)):=by
 obtain ⟨A,c,B,d,rfl,hn1,hn2⟩:=hx.form
 have L0:=((Lq.mk0 w).n hn2).n hn1
 have z1:zl 1≤1:=len_le1 (by omega)
 have zP:zl (2 ^ v)≤20:=by
  have:=zl_shl32 1 v
  rw [Int.one_mul] at this
  omega
 have zS:=zl_add (2 ^ v) (msL v a b a b)
 have zT:=zl_add (2 ^ v) (msH v a b a b)
 have zU:=zl_rtS (x:=2 ^ v + msL v a b a b) (v:=v) (k:=42) (by omega)
 have zV:=zl_rtS (x:=2 ^ v + msH v a b a b) (v:=v) (k:=42) (by omega)
 have zW:=zl_add (rtS (2 ^ v + msH v a b a b) v) 1
 have zM:=zl_add (2 ^ v) (rtS (2 ^ v + msL v a b a b) v)
 have zN:=zl_add (2 ^ v) (rtS (2 ^ v + msH v a b a b) v + 1)
 have pM:=hfM_pos v a b
 have pN:=hfN_pos v a b
 have g1:=fun W => s13of_any 1 v W (by omega) (by omega) (by omega)
 rw [Int.one_mul] at g1
 have g2:∀ x y W,IsS W x a b → IsS W y a b → Calls Tryz.prog 127 #[x,y,.int .i64 (v:Int)] W (RetSp W (msL v a b a b) (msH v a b a b)):=fun x y W h j => s13mul_any a b a b v x y W h j (by omega) (by omega) (by omega) (by omega) (by omega)
 have g3:=fun x y W h j => s13add_any (2 ^ v) (2 ^ v) (msL v a b a b) (msH v a b a b) x y W h j (by omega) (by omega) (by omega) (by omega)
 have g4:=fun x W h => s13sqrt_any (2 ^ v + msL v a b a b) (2 ^ v + msH v a b a b) v x W h (by omega) (by omega) (by omega)
 have g5:=fun x y W h j => s13add_any (2 ^ v) (2 ^ v) (rtS (2 ^ v + msL v a b a b) v) (rtS (2 ^ v + msH v a b a b) v + 1) x y W h j (by omega) (by omega) (by omega) (by omega)
 rw [show 2 ^ v + rtS (2 ^ v + msL v a b a b) v = hfM v a b from rfl] at g5 zM
 rw [show 2 ^ v + (rtS (2 ^ v + msH v a b a b) v + 1) = hfN v a b from rfl] at g5 zN
 have g6:=fun x y W h j => s13div_any a b (hfM v a b) (hfN v a b) v x y W h j (by omega) (by omega) (by omega) (by omega) hab pM pN (by omega)
 rw [show mn4 (a * 2 ^ v / hfM v a b) (cdv (b * 2 ^ v) (hfM v a b)) (a * 2 ^ v / hfN v a b) (cdv (b * 2 ^ v) (hfN v a b)) = hfL v a b from rfl,show mx4 (a * 2 ^ v / hfM v a b) (cdv (b * 2 ^ v) (hfM v a b)) (a * 2 ^ v / hfN v a b) (cdv (b * 2 ^ v) (hfN v a b)) = hfH v a b from rfl] at g6
 obtain ⟨x,hx⟩:=nm9 (hfL v a b)
 rw [hx] at g6 ⊢
 obtain ⟨y,hy⟩:=nm9 (hfH v a b)
 rw [hy] at g6 ⊢
 obtain ⟨M,hM⟩:=nm9 (hfM v a b)
 rw [hM] at g5 g6
 obtain ⟨N,hN⟩:=nm9 (hfN v a b)
 rw [hN] at g5 g6
 obtain ⟨s,hs⟩:=nm9 (rtS (2 ^ v + msL v a b a b) v)
 rw [hs] at g4 g5
 obtain ⟨t,ht⟩:=nm9 (rtS (2 ^ v + msH v a b a b) v + 1)
 rw [ht] at g4 g5
 obtain ⟨p,hp⟩:=nm9 (2 ^ v + msL v a b a b)
 rw [hp] at g3 g4
 obtain ⟨q,hq⟩:=nm9 (2 ^ v + msH v a b a b)
 rw [hq] at g3 g4
 obtain ⟨i,hi⟩:=nm9 (msL v a b a b)
 rw [hi] at g2 g3
 obtain ⟨j,hj⟩:=nm9 (msH v a b a b)
 rw [hj] at g2 g3
 obtain ⟨P,hP⟩:=nm9 ((2:Int) ^ v)
 rw [hP] at g1 g3 g5
 clear z1 zP zS zT zU zV zW zM zN pM pN hx hy hM hN hs ht hp hq hi hj hP hn1 hn2 la lb l1 l2 hab hv
 have G1:=Hd9 g1
 have G2:=Hd9 g2
 have G3:=Hd9 g3
 have G4:=Hd9 g4
 have G5:=Hd9 g5
 have G6:=Hd9 g6
 clear g1 g2 g3 g4 g5 g6
 go_enter Tryz.func126,Tryz.ntmps126
 go_wp2_with fail
 have L:=((L0.varS (w.heap.size) (by simp) (ng a) A (zl a) c (ng b) B (zl b) d).varS (w.heap.size + 1) (by simp) false none 0 0 false none 0 0)
 (try go_wp2_with fail)
 refine (G1.out _).mono ?_
 rintro e w1 ⟨vv,rfl,iq,be⟩
 obtain ⟨A1,c1,B1,d1,rfl,ia,ib⟩:=iq.form
 replace L:=((L.step be).n ib).n ia
 clear be iq ia ib
 have hl9:=L.b0.lt
 replace L:=L.varS w1.heap.size rfl (ng P) A1 (zl P) c1 (ng P) B1 (zl P) d1
 obtain ⟨c00,c01,c02,c03⟩:=L.b0.a4
 obtain ⟨f00,f01,f02,f03⟩:=L.b0.f4
 (try go_wp2_with fail)
 clear c00 f00 c01 f01 c02 f02 c03 f03
 obtain ⟨go,hgo⟩:=nm9 (w1.heap.size)
 rw [hgo] at L hl9 ⊢
 clear hgo
 replace L:=L.drew
 have n1:w.heap.size + 1 ≠ go:=by omega
 replace L:=L.swap
 obtain ⟨c00,c01,c02,c03⟩:=L.b0.a4
 obtain ⟨f00,f01,f02,f03⟩:=L.b0.f4
 obtain ⟨c10,c11,c12,c13⟩:=L.tl.b0.a4
 obtain ⟨c20,c21,c22,c23⟩:=L.tl.tl.b0.a4
 go_region_held3 (fun w' => w'.cell? ⟨w.heap.size,0,none⟩ = some (.bool (ng a))∧w'.cell? ⟨w.heap.size,1,none⟩ = some (.slice A (zl a) c)∧w'.cell? ⟨w.heap.size,2,none⟩ = some (.bool (ng b))∧w'.cell? ⟨w.heap.size,3,none⟩ = some (.slice B (zl b) d)∧w'.cell? ⟨go,0,none⟩ = some (.bool (ng P))∧w'.cell? ⟨go,1,none⟩ = some (.slice A1 (zl P) c1)∧w'.cell? ⟨go,2,none⟩ = some (.bool (ng P))∧w'.cell? ⟨go,3,none⟩ = some (.slice B1 (zl P) d1)) (first | (with_reducible exact ⟨L.tl.tl.b0.c40,L.tl.tl.b0.c41,L.tl.tl.b0.c42,L.tl.tl.b0.c43,L.tl.b0.c40,L.tl.b0.c41,L.tl.b0.c42,L.tl.b0.c43⟩) | (have LP:=L.putS (by omega) (by first | (simp;done) | (simp;omega)) (ng x) A6 (zl x) c6 (ng y) B6 (zl y) d6;unfold put4 at LP;with_reducible exact ⟨LP.tl.tl.b0.c40,LP.tl.tl.b0.c41,LP.tl.tl.b0.c42,LP.tl.tl.b0.c43,LP.tl.b0.c40,LP.tl.b0.c41,LP.tl.b0.c42,LP.tl.b0.c43⟩) | exact ⟨L.tl.tl.b0.c40,L.tl.tl.b0.c41,L.tl.tl.b0.c42,L.tl.tl.b0.c43,L.tl.b0.c40,L.tl.b0.c41,L.tl.b0.c42,L.tl.b0.c43⟩) (first | (go_at_call 127;(with_reducible refine (G2.out _ _ _ ?_ ?_ ).mono ?_);(· (refine isS_n (L.getN ?_) (L.getN ?_) <;> (repeat (first | (with_reducible exact mS) | apply mT))));(· (refine isS_n (L.getN ?_) (L.getN ?_) <;> (repeat (first | (with_reducible exact mS) | apply mT))));rintro e wh ⟨vh,rfl,iq,be⟩;obtain ⟨A2,c2,B2,d2,rfl,ia,ib⟩:=iq.form;replace L:=((L.step be).n ib).n ia;clear be iq ia ib;(try (obtain ⟨x00,x01,x02,x03⟩:=L.b0.a4;obtain ⟨y00,y01,y02,y03⟩:=L.b0.f4))) | (go_at_call 56;(with_reducible refine (G3.out _ _ _ ?_ ?_ ).mono ?_);(· (refine isS_n (L.getN ?_) (L.getN ?_) <;> (repeat (first | (with_reducible exact mS) | apply mT))));(· (refine isS_n (L.getN ?_) (L.getN ?_) <;> (repeat (first | (with_reducible exact mS) | apply mT))));rintro e wh ⟨vh,rfl,iq,be⟩;obtain ⟨A3,c3,B3,d3,rfl,ia,ib⟩:=iq.form;replace L:=((L.step be).n ib).n ia;clear be iq ia ib;(try (obtain ⟨x00,x01,x02,x03⟩:=L.b0.a4;obtain ⟨y00,y01,y02,y03⟩:=L.b0.f4))) | (go_at_call 195;(with_reducible refine (G4.out _ _ ?_ ).mono ?_);(· (refine isS_n (L.getN ?_) (L.getN ?_) <;> (repeat (first | (with_reducible exact mS) | apply mT))));rintro e wh ⟨vh,rfl,iq,be⟩;obtain ⟨A4,c4,B4,d4,rfl,ia,ib⟩:=iq.form;replace L:=((L.step be).n ib).n ia;clear be iq ia ib;(try (obtain ⟨x00,x01,x02,x03⟩:=L.b0.a4;obtain ⟨y00,y01,y02,y03⟩:=L.b0.f4))) | (go_at_call 56;(with_reducible refine (G5.out _ _ _ ?_ ?_ ).mono ?_);(· (refine isS_n (L.getN ?_) (L.getN ?_) <;> (repeat (first | (with_reducible exact mS) | apply mT))));(· (refine isS_n (L.getN ?_) (L.getN ?_) <;> (repeat (first | (with_reducible exact mS) | apply mT))));rintro e wh ⟨vh,rfl,iq,be⟩;obtain ⟨A5,c5,B5,d5,rfl,ia,ib⟩:=iq.form;replace L:=((L.step be).n ib).n ia;clear be iq ia ib;(try (obtain ⟨x00,x01,x02,x03⟩:=L.b0.a4;obtain ⟨y00,y01,y02,y03⟩:=L.b0.f4))) | (go_at_call 67;(with_reducible refine (G6.out _ _ _ ?_ ?_ ).mono ?_);(· (refine isS_n (L.getN ?_) (L.getN ?_) <;> (repeat (first | (with_reducible exact mS) | apply mT))));(· (refine isS_n (L.getN ?_) (L.getN ?_) <;> (repeat (first | (with_reducible exact mS) | apply mT))));rintro e wh ⟨vh,rfl,iq,be⟩;obtain ⟨A6,c6,B6,d6,rfl,ia,ib⟩:=iq.form;replace L:=((L.step be).n ib).n ia;clear be iq ia ib;(try (obtain ⟨x00,x01,x02,x03⟩:=L.b0.a4;obtain ⟨y00,y01,y02,y03⟩:=L.b0.f4))))
 clear c00 f00 c01 f01 c02 f02 c03 f03 c10 c11 c12 c13 c20 c21 c22 c23
 go_wp2_with fail
 have LP:=L.putS (by omega) (by first | (simp;done) | (simp;omega)) (ng x) A6 (zl x) c6 (ng y) B6 (zl y) d6
 obtain ⟨k0,k1,k2,k3⟩:=LP.b0.a4
 unfold put4 at k0 k1 k2 k3
 exact bodyPost_ret (v:=.agg #[.bool (ng x),.slice A6 (zl x) c6,.bool (ng y),.slice B6 (zl y) d6]) (by simp [results,Tryz.results126,go_sem,k0,k1,k2,k3]) rfl ⟨_,rfl,isS_n (LP.getN (by simp)) (LP.getN (by simp)),LP.below⟩

theorem half_lo_q {l m s:Rat} (l0:0 < l) (m0:0 < m) (s0:0≤s) (h:m * (1 + s)≤l) (hs:1 + l * l≤s * s):l⁻¹≤kd m⁻¹:=by
 have hc:=Rat.inv_pos.2 l0
 have hd:=Rat.inv_pos.2 m0
 have e1:=Rat.inv_mul_cancel l (Rat.ne_of_gt l0)
 have e2:=Rat.inv_mul_cancel m (Rat.ne_of_gt m0)
 refine le_kd9 hd ?_
 generalize l⁻¹ = c at *
 generalize m⁻¹ = d at *
 have ll:=rsq_nn l
 have s1:1≤s:=by
  refine Rat.not_lt.1 fun hlt => ?_
  have:=rmul_le (Rat.le_of_lt hlt) (Rat.le_of_lt hlt) s0 (by grind)
  have h9:s * s < 1:=by
   have h8:=Rat.mul_le_mul_of_nonneg_left (Rat.le_of_lt hlt) s0
   grind
  grind
 have cd:=Rat.mul_nonneg (Rat.le_of_lt hc) (Rat.le_of_lt hd)
 have k1:=Rat.mul_le_mul_of_nonneg_right h cd
 have k2:(1 + s) * c≤d:=by
  have a1:m * (1 + s) * (c * d) = d * m * ((1 + s) * c):=by grind
  have a2:l * (c * d) = c * l * d:=by grind
  rw [a1,a2,e1,e2] at k1
  grind
 have k3:=rmul_le k2 (show (1 + s) * c - 2 * c≤d - 2 * c by grind) (by
  have:=Rat.mul_nonneg (show 0≤s - 1 by grind) (Rat.le_of_lt hc)
  grind) (Rat.le_of_lt hd)
 refine Rat.le_trans ?_ k3
 have k4:=Rat.mul_le_mul_of_nonneg_right hs (rsq_nn c)
 have a3:(1 + l * l) * (c * c) = c * c + c * l * (c * l):=by grind
 rw [a3,e1] at k4
 grind
theorem half_hi_q {u m s:Rat} (u0:0 < u) (m0:0 < m) (s0:0≤s) (h:u≤m * (1 + s)) (hs:s * s≤1 + u * u):kd m⁻¹≤u⁻¹:=by
 have hc:=Rat.inv_pos.2 u0
 have hd:=Rat.inv_pos.2 m0
 have e1:=Rat.inv_mul_cancel u (Rat.ne_of_gt u0)
 have e2:=Rat.inv_mul_cancel m (Rat.ne_of_gt m0)
 refine kd_le9 hd ?_
 generalize u⁻¹ = c at *
 generalize m⁻¹ = d at *
 have cd:=Rat.mul_nonneg (Rat.le_of_lt hc) (Rat.le_of_lt hd)
 have k1:=Rat.mul_le_mul_of_nonneg_right h cd
 have k2:d≤(1 + s) * c:=by
  have a1:m * (1 + s) * (c * d) = d * m * ((1 + s) * c):=by grind
  have a2:u * (c * d) = c * u * d:=by grind
  rw [a1,a2,e1,e2] at k1
  grind
 by_cases hx:d≤2 * c
 ·have:=Rat.mul_nonneg (Rat.le_of_lt hd) (show 0≤2 * c - d by grind)
  grind
 ·have k3:=rmul_le k2 (show d - 2 * c≤(1 + s) * c - 2 * c by grind) (by grind) (Rat.mul_nonneg (by grind) (Rat.le_of_lt hc))
  refine Rat.le_trans k3 ?_
  have k4:=Rat.mul_le_mul_of_nonneg_right hs (rsq_nn c)
  have a3:(1 + u * u) * (c * c) = c * c + c * u * (c * u):=by grind
  rw [a3,e1] at k4
  grind
theorem rtS_sq {x:Int} {v:Nat} (h:0≤x):rtS x v * rtS x v≤x * 2 ^ v∧x * 2 ^ v≤(rtS x v + 1) * (rtS x v + 1):=by
 have hp:=pow2_pos v
 have hx:0≤x * 2 ^ v:=Int.mul_nonneg h (Int.le_of_lt hp)
 unfold rtS
 obtain ⟨X,hX⟩:∃ X:Nat,x * 2 ^ v = (X:Int):=⟨(x * 2 ^ v).toNat,by omega⟩
 rw [hX,Int.natAbs_natCast]
 have h1:=rt_le X (show 0 < 2 by omega)
 have h2:=rt_lt X (show 0 < 2 by omega)
 generalize rt 2 X = r at *
 rw [Nat.pow_succ,Nat.pow_one] at h1 h2
 have h2:=Nat.le_of_lt h2
 exact ⟨by exact_mod_cast h1,by exact_mod_cast h2⟩
theorem hf_num (v:Nat) {a b:Int} (ha:0≤a) (hab:a≤b) :
  (∃ T,0≤T∧2 ^ v * 2 ^ v + a * a≤T * T∧hfL v a b * (2 ^ v + T)≤a * 2 ^ v)∧(∃ T,2 ^ v≤T∧T * T≤2 ^ v * 2 ^ v + b * b∧b * 2 ^ v≤hfH v a b * (2 ^ v + T))∧0≤hfL v a b∧hfL v a b≤hfH v a b∧2 * hfH v a b≤b + 1:=by
 have hp:=pow2_pos v
 have pM:=hfM_pos v a b
 have pN:=hfN_pos v a b
 have m1:=Int.mul_nonneg ha ha
 have m2:=Int.mul_nonneg ha (Int.le_trans ha hab)
 have m3:a * a≤b * b:=Int.mul_le_mul hab hab ha (Int.le_trans ha hab)
 have m4:a * a≤a * b:=Int.mul_le_mul_of_nonneg_left hab ha
 have m5:a * b≤b * b:=Int.mul_le_mul_of_nonneg_right hab (Int.le_trans ha hab)
 have m6:b * a = a * b:=Int.mul_comm _ _
 have l1:0≤msL v a b a b:=Int.ediv_nonneg (by unfold mn4;omega) (Int.le_of_lt hp)
 have l2:msL v a b a b * 2 ^ v≤b * b:=Int.le_trans (Int.ediv_mul_le _ (Int.ne_of_gt hp)) (by unfold mn4;omega)
 have l3:a * a≤msH v a b a b * 2 ^ v:=Int.le_trans (show a * a≤mx4 (a * a) (a * b) (b * a) (b * b) by unfold mx4;omega) (le_cdv hp)
 have l4:0≤msH v a b a b:=by
  refine Int.not_lt.1 fun hlt => ?_
  have:=Int.mul_neg_of_neg_of_pos hlt hp
  omega
 have r1:=rtS_sq (x:=2 ^ v + msL v a b a b) (v:=v) (by omega)
 have r2:=rtS_sq (x:=2 ^ v + msH v a b a b) (v:=v) (by omega)
 rw [Int.add_mul] at r1 r2
 have n1:=rtS_nn (2 ^ v + msL v a b a b) v
 have n2:=rtS_nn (2 ^ v + msH v a b a b) v
 have hM:hfM v a b = 2 ^ v + rtS (2 ^ v + msL v a b a b) v:=rfl
 have hN:hfN v a b = 2 ^ v + (rtS (2 ^ v + msH v a b a b) v + 1):=rfl
 have q3:2 ^ v≤rtS (2 ^ v + msL v a b a b) v:=by
  have h9:2 ^ v * 2 ^ v≤(2 ^ v + msL v a b a b) * 2 ^ v:=Int.mul_le_mul_of_nonneg_right (by omega) (Int.le_of_lt hp)
  have hx:0≤(2 ^ v + msL v a b a b) * 2 ^ v:=Int.mul_nonneg (by omega) (Int.le_of_lt hp)
  unfold rtS
  obtain ⟨X,hX⟩:∃ X:Nat,(2 ^ v + msL v a b a b) * 2 ^ v = (X:Int):=⟨((2 ^ v + msL v a b a b) * 2 ^ v).toNat,by omega⟩
  rw [hX] at h9 ⊢
  rw [Int.natAbs_natCast]
  have:2 ^ v≤rt 2 X:=rt_max (by omega) (by
   rw [Nat.pow_succ,Nat.pow_one]
   exact_mod_cast h9)
  exact_mod_cast this
 have e1:hfL v a b≤a * 2 ^ v / hfN v a b:=by unfold hfL mn4;omega
 have e2:cdv (b * 2 ^ v) (hfM v a b)≤hfH v a b:=by unfold hfH mx4;omega
 have e3:hfL v a b * hfN v a b≤a * 2 ^ v:=Int.le_trans (Int.mul_le_mul_of_nonneg_right e1 (Int.le_of_lt pN)) (Int.ediv_mul_le _ (Int.ne_of_gt pN))
 have e4:b * 2 ^ v≤hfH v a b * hfM v a b:=Int.le_trans (le_cdv pM) (Int.mul_le_mul_of_nonneg_right e2 (Int.le_of_lt pM))
 have hbP:0≤b * 2 ^ v:=Int.mul_nonneg (by omega) (Int.le_of_lt hp)
 have haP:0≤a * 2 ^ v:=Int.mul_nonneg ha (Int.le_of_lt hp)
 have habP:a * 2 ^ v≤b * 2 ^ v:=Int.mul_le_mul_of_nonneg_right hab (Int.le_of_lt hp)
 have x1:0≤a * 2 ^ v / hfM v a b:=Int.ediv_nonneg haP (Int.le_of_lt pM)
 have x2:0≤a * 2 ^ v / hfN v a b:=Int.ediv_nonneg haP (Int.le_of_lt pN)
 have x3:=div_cdv pM habP
 have x4:=div_cdv pN habP
 have up:∀ d,0 < d → 2 * 2 ^ v≤d → 2 * cdv (b * 2 ^ v) d≤b + 1:=fun d d0 hd => by
  obtain ⟨B,hB⟩:=nm9 ((b + 1) / 2)
  have hb2:b≤2 * B:=by omega
  have:cdv (b * 2 ^ v) d≤B:=(cdv_le d0).2 (by
   have h1:B * (2 * 2 ^ v)≤B * d:=Int.mul_le_mul_of_nonneg_left hd (by omega)
   have h2:b * 2 ^ v≤2 * B * 2 ^ v:=Int.mul_le_mul_of_nonneg_right hb2 (Int.le_of_lt hp)
   have h3:B * (2 * 2 ^ v) = 2 * B * 2 ^ v:=by rw [← Int.mul_assoc,Int.mul_comm B 2]
   omega)
  omega
 have hMN:hfM v a b≤hfN v a b ∨ True:=Or.inr trivial
 have u1:=up _ pM (by omega)
 have q4:2 ^ v≤rtS (2 ^ v + msH v a b a b) v + 1:=by
  refine Int.not_lt.1 fun hlt => ?_
  have h1:(rtS (2 ^ v + msH v a b a b) v + 1) * (rtS (2 ^ v + msH v a b a b) v + 1) < 2 ^ v * 2 ^ v:=by
   have:=Int.mul_le_mul (Int.le_of_lt hlt) (Int.le_of_lt hlt) (by omega) (Int.le_of_lt hp)
   have h5:(rtS (2 ^ v + msH v a b a b) v + 1) * (rtS (2 ^ v + msH v a b a b) v + 1)≤(rtS (2 ^ v + msH v a b a b) v + 1) * 2 ^ v:=Int.mul_le_mul_of_nonneg_left (Int.le_of_lt hlt) (by omega)
   have h6:(rtS (2 ^ v + msH v a b a b) v + 1) * 2 ^ v < 2 ^ v * 2 ^ v:=Int.mul_lt_mul_of_pos_right hlt hp
   omega
  omega
 have u2:=up _ pN (by omega)
 refine ⟨⟨rtS (2 ^ v + msH v a b a b) v + 1,by omega,by omega,?_⟩,⟨rtS (2 ^ v + msL v a b a b) v,q3,by omega,?_⟩,?_,?_,?_⟩
 ·rw [← hN];exact e3
 ·rw [← hM];exact e4
 ·have:0≤cdv (b * 2 ^ v) (hfM v a b):=Int.le_trans x1 x3
  have:0≤cdv (b * 2 ^ v) (hfN v a b):=Int.le_trans x2 x4
  unfold hfL mn4;omega
 ·unfold hfL hfH mn4 mx4;omega
 ·have y1:a * 2 ^ v / hfM v a b≤cdv (b * 2 ^ v) (hfM v a b):=x3
  unfold hfH mx4;omega
structure HvR (v j:Nat) (a0 b0 a b:Int):Prop where
 nn:0≤a
 le:a≤b
 lo:a≤0 ∨ (0 < a0∧∀ e,LoC e (dq a (-(v:Int)))⁻¹ → LoC (rp 2 j * e) (dq a0 (-(v:Int)))⁻¹)
 hi:b = 0 ∨ (0 < b0∧∀ e,UpC (dq b (-(v:Int)))⁻¹ e → UpC (dq b0 (-(v:Int)))⁻¹ (rp 2 j * e))
 sz:(2:Int) ^ j * b≤2 ^ v + 2 ^ j
 bz:b = 0 → b0 = 0
theorem HvR.first {v:Nat} {a b:Int} (h:0≤a) (k:a≤b) (hb:b≤2 ^ v):HvR v 0 a b a b:=by
 refine ⟨h,k,?_,?_,?_,id⟩
 ·by_cases ha:a≤0
  ·exact Or.inl ha
  ·refine Or.inr ⟨by omega,fun e he => ?_⟩
   show LoC (1 * e) _
   rwa [Rat.one_mul]
 ·by_cases ha:b = 0
  ·exact Or.inl ha
  ·refine Or.inr ⟨by omega,fun e he => ?_⟩
   show UpC _ (1 * e)
   rwa [Rat.one_mul]
 ·rw [Int.pow_zero,Int.one_mul];omega
theorem dq_gt {a e:Int} (h:0 < a):0 < dq a e:=by
 have:=(dq_lt_iff 0 a e).2 h
 rwa [dq_zero] at this
theorem dq_pq (a b:Int) (v:Nat):dq a (-(v:Int)) * dq b (-(v:Int)) = dq (a * b) (-(v:Int)) * dq 1 (-(v:Int)):=by
 rw [dq_scale a,dq_scale b,dq_scale (a * b),Rat.intCast_mul]
 grind
theorem dq_P (v:Nat):dq (2 ^ v) (-(v:Int)) = 1:=by rw [dq_scale];exact two_cast v
theorem HvR.step {v j:Nat} {a0 b0 a b:Int} (h:HvR v j a0 b0 a b):HvR v (j + 1) a0 b0 (hfL v a b) (hfH v a b):=by
 obtain ⟨⟨T,t0,t1,t2⟩,⟨S,s0,s1,s2⟩,n1,n2,n3⟩:=hf_num v h.nn h.le
 have hp:=pow2_pos v
 have u:=dq_pos (-(v:Int))
 have eP:=dq_P v
 have two:∀ e:Rat,rp 2 (j + 1) * e = rp 2 j * (2 * e):=fun e => by show rp 2 j * 2 * e = _;rw [Rat.mul_assoc]
 refine ⟨n1,n2,?_,?_,?_,?_⟩
 ·by_cases hz:hfL v a b≤0
  ·exact Or.inl hz
  ·have ha:0 < a:=by
    refine Int.not_le.1 fun hle => hz ?_
    have:hfL v a b * (2 ^ v + T)≤0:=by
     have:=Int.mul_le_mul_of_nonneg_right hle (Int.le_of_lt hp)
     omega
    refine Int.not_lt.1 fun hlt => ?_
    have:=Int.mul_pos hlt (show 0 < 2 ^ v + T by omega)
    omega
   rcases h.lo with h0 | ⟨h0,h1⟩
   ·omega
   ·refine Or.inr ⟨h0,fun e he => ?_⟩
    rw [two]
    have a1:=(dq_le_iff _ _ (-(v:Int))).2 t1
    have a2:=(dq_le_iff _ _ (-(v:Int))).2 t2
    have b1:=dq_pq (2 ^ v) (2 ^ v) v
    have b2:=dq_pq a a v
    have b3:=dq_pq T T v
    have b4:=dq_pq (hfL v a b) (2 ^ v + T) v
    have b5:=dq_pq a (2 ^ v) v
    rw [dq_addI] at a1 b4
    have c1:=Rat.mul_le_mul_of_nonneg_right a1 (Rat.le_of_lt u)
    have c2:=Rat.mul_le_mul_of_nonneg_right a2 (Rat.le_of_lt u)
    rw [Rat.add_mul,← b1,← b2,← b3,eP] at c1
    rw [← b4,← b5,eP] at c2
    refine h1 (2 * e) (he.dbl (Rat.inv_pos.2 (dq_gt (by omega))) (half_lo_q (s:=dq T (-(v:Int))) (dq_gt ha) (dq_gt (by omega)) ?_ (by grind) (by grind)))
    have:=(dq_le_iff 0 T (-(v:Int))).2 t0
    rwa [dq_zero] at this
 ·by_cases hz:b = 0
  ·refine Or.inl ?_
   omega
  ·have hb:0 < b:=by have:=h.nn;have:=h.le;omega
   have hH:0 < hfH v a b:=by
    refine Int.not_le.1 fun hle => ?_
    have e1:=Int.mul_pos hb hp
    have e2:=Int.mul_le_mul_of_nonneg_right hle (show 0≤2 ^ v + S by omega)
    rw [Int.zero_mul] at e2
    omega
   rcases h.hi with h0 | ⟨h0,h1⟩
   ·omega
   ·refine Or.inr ⟨h0,fun e he => ?_⟩
    rw [two]
    have a1:=(dq_le_iff _ _ (-(v:Int))).2 s1
    have a2:=(dq_le_iff _ _ (-(v:Int))).2 s2
    have b1:=dq_pq (2 ^ v) (2 ^ v) v
    have b2:=dq_pq b b v
    have b3:=dq_pq S S v
    have b4:=dq_pq (hfH v a b) (2 ^ v + S) v
    have b5:=dq_pq b (2 ^ v) v
    rw [dq_addI] at a1 b4
    have c1:=Rat.mul_le_mul_of_nonneg_right a1 (Rat.le_of_lt u)
    have c2:=Rat.mul_le_mul_of_nonneg_right a2 (Rat.le_of_lt u)
    rw [Rat.add_mul,← b1,← b2,← b3,eP] at c1
    rw [← b4,← b5,eP] at c2
    refine h1 (2 * e) (he.dbl (Rat.inv_pos.2 (dq_gt hH)) (half_hi_q (s:=dq S (-(v:Int))) (dq_gt hb) (dq_gt hH) ?_ (by grind) (by grind)))
    have:=(dq_le_iff 0 S (-(v:Int))).2 (by omega)
    rwa [dq_zero] at this
 ·have e:(2:Int) ^ (j + 1) = 2 ^ j * 2:=Int.pow_succ _ _
  have pj:=pow2_pos j
  have:=h.sz
  have m:=Int.mul_le_mul_of_nonneg_left n3 (Int.le_of_lt pj)
  rw [e,Int.mul_assoc]
  rw [Int.mul_add,Int.mul_one] at m
  omega
 ·intro hz
  refine h.bz ?_
  have hle:b≤0:=by
   refine Int.not_lt.1 (fun hb => ?_)
   have e1:=Int.mul_pos hb hp
   rw [hz,Int.zero_mul] at s2
   omega
  have:=h.nn
  have:=h.le
  omega
structure AtI1 (v n:Nat) (z:Rat) (a b p q:Int):Prop where
 tm:SpC a b v (rp z (2 * n + 1))
 sm:SpC p q v (ats n z)
theorem AtI1.first {v:Nat} {z:Rat} {a b:Int} (h:SpC a b v z):AtI1 v 0 z a b 0 0:=by
 refine ⟨?_,?_⟩
 ·have e:rp z (2 * 0 + 1) = z:=by show 1 * z = z;exact Rat.one_mul z
  rw [e];exact h
 ·have e:ats 0 z = ((0:Int):Rat):=by show (0:Rat) - 0 = 0;decide +kernel
  have:=SpC.of 0 v
  rw [e]
  rwa [Int.zero_mul] at this
theorem ats_even {n:Nat} (h:n % 2 = 0) (z:Rat):ats (n + 1) z = ats n z + rp z (2 * n + 1) / ((2 * (n:Int) + 1:Int):Rat):=by
 have e2:((2 * (n:Int) + 1:Int):Rat) = ((2 * n:Nat):Rat) + 1:=by push_cast;rfl
 rw [e2]
 have e:evn n = true:=decide_eq_true h
 have o:odn n = false:=by unfold odn;rw [e];rfl
 show (sr evn n z + if evn n then _ else _) - (sr odn n z + if odn n then _ else _) = _
 rw [e,o,if_pos rfl,if_neg (by decide)]
 unfold ats
 grind
theorem ats_odd {n:Nat} (h:n % 2 = 1) (z:Rat):ats (n + 1) z = ats n z + -(rp z (2 * n + 1) / ((2 * (n:Int) + 1:Int):Rat)):=by
 have e2:((2 * (n:Int) + 1:Int):Rat) = ((2 * n:Nat):Rat) + 1:=by push_cast;rfl
 rw [e2]
 have e:evn n = false:=decide_eq_false (by omega)
 have o:odn n = true:=by unfold odn;rw [e];rfl
 show (sr evn n z + if evn n then _ else _) - (sr odn n z + if odn n then _ else _) = _
 rw [e,o,if_pos rfl,if_neg (by decide)]
 unfold ats
 grind
theorem AtI1.tms {v n:Nat} {z:Rat} {a b p q c d:Int} (h:AtI1 v n z a b p q) (hs:SpC c d v (z * z)):SpC (msL v a b c d) (msH v a b c d) v (rp z (2 * (n + 1) + 1)):=by
 have t:=h.tm.mul hs
 have e:rp z (2 * (n + 1) + 1) = rp z (2 * n + 1) * (z * z):=by
  show rp z (2 * n + 1) * z * z = rp z (2 * n + 1) * (z * z)
  rw [Rat.mul_assoc]
 rw [e]
 exact t
theorem AtI1.even {v n:Nat} {z:Rat} {a b p q c d:Int} (h:AtI1 v n z a b p q) (hs:SpC c d v (z * z)) (hn:n % 2 = 0):AtI1 v (n + 1) z (msL v a b c d) (msH v a b c d) (p + a / (2 * (n:Int) + 1)) (q + cdv b (2 * (n:Int) + 1)):=by
 refine ⟨h.tms hs,?_⟩
 rw [ats_even hn]
 exact h.sm.add (h.tm.over (n:=2 * (n:Int) + 1) (by omega))
theorem AtI1.odd {v n:Nat} {z:Rat} {a b p q c d:Int} (h:AtI1 v n z a b p q) (hs:SpC c d v (z * z)) (hn:n % 2 = 1):AtI1 v (n + 1) z (msL v a b c d) (msH v a b c d) (p + -(cdv b (2 * (n:Int) + 1))) (q + -(a / (2 * (n:Int) + 1))):=by
 refine ⟨h.tms hs,?_⟩
 rw [ats_odd hn]
 exact h.sm.add (h.tm.over (n:=2 * (n:Int) + 1) (by omega)).neg
structure RaJ (v n f:Nat) (y z:Rat) (a b p q:Int):Prop where
 nf:n + f = v
 t1:AtI1 v n y a b p q
 t2:AtI1 v n z a b p q
 wi:∃ M,WiI M a b∧0≤M∧M≤2 ^ f
 p1:-((n:Int) * 2 ^ v)≤p∧p≤(n:Int) * 2 ^ v
 q1:-((n:Int) * 2 ^ v)≤q∧q≤(n:Int) * 2 ^ v
theorem RaJ.first {v:Nat} {y z:Rat} {a b:Int} (hv:9≤v) (h:SpC a b v y) (k:SpC a b v z) (w:WiI (2 ^ v / 16 + 1) a b):RaJ v 0 v y z a b 0 0:=by
 have hp:=pow2_pos v
 have h9:(512:Int)≤2 ^ v:=by
  have:(2:Nat) ^ 9≤2 ^ v:=Nat.pow_le_pow_right (by omega) hv
  exact_mod_cast this
 exact ⟨by omega,.first h,.first k,⟨_,w,by omega,by omega⟩,by omega,by omega⟩
theorem RaJ.more {v n f:Nat} {y z:Rat} {a b p q:Int} (h:RaJ v n f y z a b p q) (ht:tnB a b = false):∃ g,f = g + 1∧a≤b∧∀ c d,WiI (2 ^ v / 16) c d → ∃ M,WiI M (msL v a b c d) (msH v a b c d)∧0≤M∧M≤2 ^ g:=by
 obtain ⟨M,hw,m0,hM⟩:=h.wi
 have hf:2≤M:=by
  unfold tnB at ht
  refine Int.not_lt.1 fun hlt => ?_
  have h1:a.natAbs≤1:=by unfold WiI at hw;omega
  have h2:b.natAbs≤1:=by unfold WiI at hw;omega
  rw [decide_eq_true h1,decide_eq_true h2] at ht
  cases ht
 obtain ⟨g,rfl⟩:∃ g,f = g + 1:=by
  cases f with
  | zero => rw [Int.pow_zero] at hM;omega
  | succ g => exact ⟨g,rfl⟩
 have e2:(2:Int) ^ (g + 1) = 2 * 2 ^ g:=by rw [Int.pow_succ,Int.mul_comm]
 exact ⟨g,rfl,h.t1.tm.le,fun c d wd => ⟨(M + 15) / 16,ms_wide hw wd (by have:=pow2_pos v;omega) m0 (by omega),by omega,by omega⟩⟩
theorem RaJ.ab {v n f:Nat} {y z:Rat} {a b p q:Int} (h:RaJ v n f y z a b p q):a.natAbs≤2 ^ v∧b.natAbs≤2 ^ v:=by
 obtain ⟨M,hw,m0,hM⟩:=h.wi
 have hf:(2:Nat) ^ f≤2 ^ v:=Nat.pow_le_pow_right (by omega) (by have:=h.nf;omega)
 have e:(2:Int) ^ f = ((2 ^ f:Nat):Int):=by push_cast;rfl
 rw [e] at hM
 unfold WiI at hw
 generalize (2:Nat) ^ f = F at *
 generalize (2:Nat) ^ v = G at *
 omega
theorem RaJ.parts {v n f:Nat} {y z:Rat} {a b p q:Int} (h:RaJ v n f y z a b p q):(a / (2 * (n:Int) + 1)).natAbs≤2 ^ v∧(cdv b (2 * (n:Int) + 1)).natAbs≤2 ^ v:=by
 have a1:(a / (2 * (n:Int) + 1)).natAbs≤a.natAbs:=Int.natAbs_ediv_le_natAbs _ _
 have a2:(-b / (2 * (n:Int) + 1)).natAbs≤(-b).natAbs:=Int.natAbs_ediv_le_natAbs _ _
 have:=h.ab
 unfold cdv
 omega
theorem pow_cast9 (v:Nat):(2:Int) ^ v = ((2 ^ v:Nat):Int):=by push_cast;rfl
theorem RaJ.even {v n g:Nat} {y z:Rat} {a b p q c d:Int} (h:RaJ v n (g + 1) y z a b p q) (hs:SpC c d v (y * y)) (ks:SpC c d v (z * z)) (hw:∃ M,WiI M (msL v a b c d) (msH v a b c d)∧0≤M∧M≤2 ^ g) (hn:n % 2 = 0) :
  RaJ v (n + 1) g y z (msL v a b c d) (msH v a b c d) (p + a / (2 * (n:Int) + 1)) (q + cdv b (2 * (n:Int) + 1)):=by
 obtain ⟨x1,x2⟩:=h.parts
 have hp:=h.p1
 have hq:=h.q1
 have e3:((n + 1:Nat):Int) * 2 ^ v = (n:Int) * 2 ^ v + 2 ^ v:=by push_cast;rw [Int.add_mul,Int.one_mul]
 have pc:=pow_cast9 v
 refine ⟨by have:=h.nf;omega,h.t1.even hs hn,h.t2.even ks hn,hw,?_,?_⟩ <;> rw [e3] <;> omega
theorem RaJ.odd {v n g:Nat} {y z:Rat} {a b p q c d:Int} (h:RaJ v n (g + 1) y z a b p q) (hs:SpC c d v (y * y)) (ks:SpC c d v (z * z)) (hw:∃ M,WiI M (msL v a b c d) (msH v a b c d)∧0≤M∧M≤2 ^ g) (hn:n % 2 = 1) :
  RaJ v (n + 1) g y z (msL v a b c d) (msH v a b c d) (p + -(cdv b (2 * (n:Int) + 1))) (q + -(a / (2 * (n:Int) + 1))):=by
 obtain ⟨x1,x2⟩:=h.parts
 have hp:=h.p1
 have hq:=h.q1
 have e3:((n + 1:Nat):Int) * 2 ^ v = (n:Int) * 2 ^ v + 2 ^ v:=by push_cast;rw [Int.add_mul,Int.one_mul]
 have pc:=pow_cast9 v
 refine ⟨by have:=h.nf;omega,h.t1.odd hs hn,h.t2.odd ks hn,hw,?_,?_⟩ <;> rw [e3] <;> omega
theorem RaJ.sizes {v n f:Nat} {y z:Rat} {a b p q:Int} (h:RaJ v n f y z a b p q):AbP a v∧AbP b v∧AbP p (2 * v)∧AbP q (2 * v):=by
 have w:=h.ab
 have hn:(n:Int) * 2 ^ v≤((2 ^ (2 * v):Nat):Int):=by
  have h1:n < 2 ^ v:=Nat.lt_of_le_of_lt (show n≤v by have:=h.nf;omega) (Nat.lt_two_pow_self)
  have h2:n * 2 ^ v≤2 ^ v * 2 ^ v:=Nat.mul_le_mul_right _ (Nat.le_of_lt h1)
  rw [← Nat.pow_add,← Nat.two_mul] at h2
  rw [pow_cast9]
  exact_mod_cast h2
 have hp:=h.p1
 have hq:=h.q1
 unfold AbP
 refine ⟨w.1,w.2,?_,?_⟩ <;> omega
theorem AtI1.low {v n:Nat} {z:Rat} {a b p q:Int} (h:AtI1 v n z a b p q) (ht:tnB a b = true) (hz0:0 < z) (hz1:z≤1):LoC (dq p (-(v:Int)) - dq 1 (-(v:Int))) z⁻¹∧UpC z⁻¹ (dq q (-(v:Int)) + dq 1 (-(v:Int))):=by
 obtain ⟨t1,t2⟩:=h.tm
 obtain ⟨s1,s2⟩:=h.sm
 obtain ⟨l,k⟩:=at_ser n hz0 hz1 (Rat.le_refl (a:=rp z (2 * n)))
 have e:z * rp z (2 * n) = rp z (2 * n + 1):=Rat.mul_comm _ _
 rw [e] at l k
 unfold tnB at ht
 rw [Bool.and_eq_true,decide_eq_true_eq,decide_eq_true_eq] at ht
 have hb:rp z (2 * n + 1)≤dq 1 (-(v:Int)):=Rat.le_trans t2 ((dq_le_iff _ _ _).2 (by omega))
 exact ⟨l.mono (by clear l k;grind) Rat.le_refl,k.mono (by clear l k;grind) Rat.le_refl⟩
theorem rp2_4:rp 2 4 = 16:=by decide +kernel
theorem dq_end (p c:Int) (v:Nat):dq ((p + c) * 16) (-(v:Int)) = 16 * (dq p (-(v:Int)) + (c:Rat) * dq 1 (-(v:Int))):=by
 rw [dq_scale ((p + c) * 16),dq_scale p,Rat.intCast_mul,Rat.intCast_add]
 have c2:((16:Int):Rat) = 16:=rfl
 rw [c2]
 grind
def InU (v:Nat) (a0 b0 s t:Int):Prop:=∀ x:Rat,SpC a0 b0 v x → 0≤x → AtL (dq s (-(v:Int))) x∧AtU x (dq t (-(v:Int)))
theorem inner_end {v n:Nat} {a0 b0 a b c d p q:Int} (h:HvR v 4 a0 b0 a b) (hv:9≤v) (y1:AtI1 v n (dq a (-(v:Int))) c d p q) (z1:AtI1 v n (dq b (-(v:Int))) c d p q) (ht:tnB c d = true):InU v a0 b0 ((p - 3) * 16) ((q + 3) * 16):=by
 have u:=dq_pos (-(v:Int))
 have eP:=dq_P v
 have h9:(512:Int)≤2 ^ v:=by
  have:(2:Nat) ^ 9≤2 ^ v:=Nat.pow_le_pow_right (by omega) hv
  exact_mod_cast this
 have hsz:=h.sz
 rw [show (2:Int) ^ 4 = 16 from rfl] at hsz
 have hb1:dq b (-(v:Int))≤1:=by rw [← eP];exact (dq_le_iff _ _ _).2 (by omega)
 have ha1:dq a (-(v:Int))≤dq b (-(v:Int)):=(dq_le_iff _ _ _).2 h.le
 have e1:=dq_end p (-3) v
 rw [show p + -3 = p - 3 from rfl,show ((-3:Int):Rat) = -3 from rfl] at e1
 have e2:=dq_end q 3 v
 rw [show ((3:Int):Rat) = 3 from rfl] at e2
 have lo:0 < a0∧LoC (dq ((p - 3) * 16) (-(v:Int))) (dq a0 (-(v:Int)))⁻¹ ∨ dq ((p - 3) * 16) (-(v:Int))≤0:=by
  rcases h.lo with h0 | ⟨h0,h1⟩
  ·refine Or.inr ?_
   obtain rfl:a = 0:=by have:=h.nn;omega
   have:=y1.sm.1
   have z0:ats n 0 = 0:=by unfold ats;rw [sr_zero,sr_zero];decide +kernel
   rw [dq_zero,z0] at this
   rw [e1]
   grind
  ·by_cases ha:a≤0
   ·refine Or.inr ?_
    obtain rfl:a = 0:=by have:=h.nn;omega
    have:=y1.sm.1
    have z0:ats n 0 = 0:=by unfold ats;rw [sr_zero,sr_zero];decide +kernel
    rw [dq_zero,z0] at this
    rw [e1]
    grind
   ·have l:=h1 _ (y1.low ht (dq_gt (by omega)) (Rat.le_trans ha1 hb1)).1
    rw [rp2_4] at l
    exact Or.inl ⟨h0,l.mono (by rw [e1];clear l;grind) Rat.le_refl⟩
 have hi:0 < b0∧UpC (dq b0 (-(v:Int)))⁻¹ (dq ((q + 3) * 16) (-(v:Int))) ∨ (b0 = 0∧0≤dq ((q + 3) * 16) (-(v:Int))):=by
  by_cases hb:b = 0
  ·refine Or.inr ⟨h.bz hb,?_⟩
   subst hb
   have:=z1.sm.2
   have z0:ats n 0 = 0:=by unfold ats;rw [sr_zero,sr_zero];decide +kernel
   rw [dq_zero,z0] at this
   rw [e2]
   grind
  ·rcases h.hi with h0 | ⟨h0,h1⟩
   ·omega
   ·have k:=h1 _ (z1.low ht (dq_gt (by have:=h.nn;have:=h.le;omega)) hb1).2
    rw [rp2_4] at k
    exact Or.inl ⟨h0,k.mono (by rw [e2];clear k;grind) Rat.le_refl⟩
 intro x hx x0
 have hx1:=hx.1
 have hx2:=hx.2
 by_cases xz:x = 0
 ·subst xz
  have r1:dq ((p - 3) * 16) (-(v:Int))≤0:=by
   rcases lo with ⟨l0,_⟩ | l
   ·have:=dq_gt (e := -(v:Int)) l0
    grind
   ·exact l
  have r2:0≤dq ((q + 3) * 16) (-(v:Int)):=by
   rcases hi with ⟨_,k⟩ | ⟨_,k⟩
   ·exact k.1
   ·exact k
  refine ⟨Or.inr (Or.inl ⟨rfl,r1⟩),?_⟩
  unfold AtU
  refine Or.inr (Or.inl ⟨by grind,by grind⟩)
 ·have xp:0 < x:=by grind
  refine ⟨Or.inl ⟨xp,?_⟩,?_⟩
  ·rcases lo with ⟨l0,l⟩ | l
   ·exact l.mono Rat.le_refl (inv_le9 (dq_gt l0) hx1)
   ·exact LoC.nonpos l
  ·rcases hi with ⟨k0,k⟩ | ⟨k0,k⟩
   ·unfold AtU
    refine Or.inr (Or.inr ⟨by grind,?_⟩)
    rw [Rat.neg_neg,Rat.neg_neg]
    exact k.mono Rat.le_refl (inv_le9 xp hx2)
   ·exfalso
    rw [k0,dq_zero] at hx2
    grind

theorem own_lit0 (w:World):Own (w.alloc (.cells #[] 140)) w.heap.size (.slice (some ⟨w.heap.size,0,none⟩) 0 0) []:=
 ⟨World.ownsRow_lit w #[] 0 (Nat.le_refl _) (by unfold maxLen;omega) rfl,small_nil⟩
def RetNn (w:World) (x:Nat) (en:Ending) (w':World):Prop:=∃ v,en = .returned v∧IsN w' v x∧Below w.heap.size w w'
theorem clone_any (x:Nat) (vx:Value) (w:World) (hx:IsN w vx x) (hl:len x≤1000000) :
    Calls Tryz.prog 266 #[vx] w (RetNn w x):=by
  obtain ⟨A,n,c,rfl,hs⟩:=hx
  have qT:∀ (w:World) (a:Option Addr) (n c n' c':Nat),(binOp .eql 22 (.slice a n c) (.slice none n' c')).run Tryz.prog w = .ok (.bool a.isNone) w:=fun w a n c n' c' => Lib.run_eql_slice_nil w _ _ a n c n' c' Tryz.underlying22
  have hn:len x = n:=by rw [← length_dig];exact hs.len
  cases A with
  | none =>
    have hx0:x = 0:=by
      rcases Nat.eq_zero_or_pos n with h0 | h0
      · rw [h0] at hn
        rcases Nat.eq_zero_or_pos x with h1 | h1
        · exact h1
        · have:=len_pos h1
          omega
      · obtain ⟨_,_,e,_⟩:=hs.place h0
        cases e
    subst hx0
    clear hs hn hl
    go_enter Tryz.func266,Tryz.ntmps266
    go_wp2_with fail
    go_ret
    exact ⟨_,rfl,IsN.zero _,Below.refl _ _⟩
  | some a =>
    have hsl:n≤1000000:=by omega
    have HS:=Hd9 hs
    clear hs hn hl
    go_enter Tryz.func266,Tryz.ntmps266
    go_wp2_with (at_builtin;refine wp_appS _ rfl _ _ rfl w.heap.size _ [] rfl (own_lit0 w) (some a) n c (dig x) rfl (HS.out.mono ((Below.refl _ w).alloc (Nat.le_refl _) _)) (by simp;omega) (by simp) ?_)
    intro v2 w2 h2 g2
    have b2:=((Below.refl w.heap.size w).alloc (Nat.le_refl _) (.cells #[] 140)).grown g2 (by simp) (fun k hk => (own_lit0 w).blockGe k hk)
    have h2':Own w2 w.heap.size v2 (dig x):=h2
    obtain ⟨A2,c2,e2,hs2,_⟩:=h2'.form
    clear h2 g2 h2'
    go_wp2_with fail
    go_ret
    exact ⟨v2,rfl,⟨A2,_,c2,e2,hs2⟩,b2⟩

theorem icopied_any (m e:Int) (vx:Value) (w:World) (hx:IsD w vx m e) (lm:zl m≤1000) :
  Calls Tryz.prog 249 #[vx] w (RetD8 w m e):=by
 obtain ⟨A,c,rfl,_,hn1⟩:=hx.form
 have L0:=(Lq.mk0 w).n hn1
 have HC:=Hd9 (fun v W h => clone_any m.natAbs v W h (show len m.natAbs≤1000000 from Nat.le_trans lm (by omega)))
 clear hx hn1 lm
 go_enter Tryz.func249,Tryz.ntmps249
 go_wp2_with fail
 have L:=((L0.varD (w.heap.size) (by simp) (ng m) A (zl m) c e).varD (w.heap.size + 1) (by simp) false none 0 0 0)
 obtain ⟨c00,c01,c02⟩:=L.b0.a3
 obtain ⟨f00,f01,f02⟩:=L.b0.f3
 obtain ⟨c10,c11,c12⟩:=L.tl.b0.a3
 obtain ⟨f10,f11,f12⟩:=L.tl.b0.f3
 (try go_wp2_with fail)
 refine (HC.out _ _ (L.getN (v:=.slice A (zl m) c) (x:=(m).natAbs) (by simp))).mono ?_
 rintro e w1 ⟨v9,rfl,in9,be⟩
 clear c00 f00 c01 f01 c02 f02 c10 f10 c11 f11 c12 f12
 obtain ⟨A9,c9,e9⟩:=in9.form
 replace e9:v9 = .slice A9 (zl m) c9:=e9
 subst e9
 replace L:=(L.step be).n in9
 clear be in9
 replace L:=L.swap
 obtain ⟨c00,c01,c02⟩:=L.b0.a3
 obtain ⟨f00,f01,f02⟩:=L.b0.f3
 obtain ⟨c10,c11,c12⟩:=L.tl.b0.a3
 obtain ⟨f10,f11,f12⟩:=L.tl.b0.f3
 have LS:Lq _ _ _ _ _ ((w.heap.size,26,#[.bool (ng m),.slice A9 (zl m) c9,.int .i64 e]) :: _):=L.set (by omega) (by first | (simp;done) | (simp;omega)) 1 (.slice A9 (zl m) c9) (by intro x e;cases e)
 obtain ⟨s00,s01,s02⟩:=LS.b0.a3
 obtain ⟨r00,r01,r02⟩:=LS.tl.b0.f3
 (try go_wp2_with fail)
 clear s00 s01 s02 r00 r01 r02
 replace L:=LS.swap
 clear LS
 have LP:=L.putD (by omega) (by first | (simp;done) | (simp;omega)) (ng m) A9 (zl m) c9 (e)
 obtain ⟨k0,k1,k2⟩:=LP.b0.a3
 unfold put3 at k0 k1 k2
 exact bodyPost_ret (v:=.agg #[.bool (ng m),.slice A9 (zl m) c9,.int .i64 (e)]) (by simp [results,Tryz.results249,go_sem,k0,k1,k2]) rfl ⟨_,rfl,isD_n (LP.getN (by simp)),LP.below⟩
theorem ibetween_any (m e n f:Int) (vx vy:Value) (w:World) (hx:IsD w vx m e) (hy:IsD w vy n f) (lm:zl m≤1000) (ln:zl n≤1000) (he:-70000≤e∧e≤70000) (hf:-70000≤f∧f≤70000) :
  Calls Tryz.prog 223 #[vx,vy] w (RetI6 w m e n f):=by
 obtain ⟨A,c,rfl,_,hn1⟩:=hx.form
 obtain ⟨B,d,rfl,_,hn2⟩:=hy.form
 have L0:=((Lq.mk0 w).n hn2).n hn1
 have H1:=Hd9 (fun v W h => icopied_any m e v W h lm)
 have H2:=Hd9 (fun v W h => icopied_any n f v W h ln)
 clear hx hy hn1 hn2 lm ln he hf
 go_enter Tryz.func223,Tryz.ntmps223
 go_wp2_with fail
 have L:=(((L0.varD (w.heap.size) (by simp) (ng m) A (zl m) c e).varD (w.heap.size + 1) (by simp) (ng n) B (zl n) d f).varI (w.heap.size + 2) (by simp) false none 0 0 0 false none 0 0 0)
 replace L:=L.drew
 obtain ⟨c00,c01,c02,c03,c04,c05⟩:=L.b0.a6
 obtain ⟨f00,f01,f02,f03,f04,f05⟩:=L.b0.f6
 obtain ⟨c10,c11,c12⟩:=L.tl.b0.a3
 obtain ⟨c20,c21,c22⟩:=L.tl.tl.b0.a3
 go_region_held3 (fun w' => w'.cell? ⟨w.heap.size,0,none⟩ = some (.bool (ng m))∧w'.cell? ⟨w.heap.size,1,none⟩ = some (.slice A (zl m) c)∧w'.cell? ⟨w.heap.size,2,none⟩ = some (.int .i64 e)∧w'.cell? ⟨w.heap.size + 1,0,none⟩ = some (.bool (ng n))∧w'.cell? ⟨w.heap.size + 1,1,none⟩ = some (.slice B (zl n) d)∧w'.cell? ⟨w.heap.size + 1,2,none⟩ = some (.int .i64 f)) (first | (with_reducible exact ⟨L.tl.tl.b0.c30,L.tl.tl.b0.c31,L.tl.tl.b0.c32,L.tl.b0.c30,L.tl.b0.c31,L.tl.b0.c32⟩) | (have LP:=L.putI (by omega) (by first | (simp;done) | (simp;omega)) (ng m) A8 (zl m) c8 (e) (ng n) A9 (zl n) c9 (f);unfold put6 at LP;with_reducible exact ⟨LP.tl.tl.b0.c30,LP.tl.tl.b0.c31,LP.tl.tl.b0.c32,LP.tl.b0.c30,LP.tl.b0.c31,LP.tl.b0.c32⟩) | exact ⟨L.tl.tl.b0.c30,L.tl.tl.b0.c31,L.tl.tl.b0.c32,L.tl.b0.c30,L.tl.b0.c31,L.tl.b0.c32⟩) (first | (go_at_call 249;(with_reducible refine (H1.out _ _ ?_ ).mono ?_);(· (refine isD_n (L.getN ?_);(repeat (first | (with_reducible exact mS) | apply mT))));rintro e wh ⟨vh,rfl,id,be⟩;obtain ⟨A8,c8,rfl,_,in9⟩:=id.form;replace L:=(L.step be).n in9;clear be id in9;(try (obtain ⟨x00,x01,x02,x03,x04,x05⟩:=L.b0.a6;obtain ⟨y00,y01,y02,y03,y04,y05⟩:=L.b0.f6))) | (go_at_call 249;(with_reducible refine (H2.out _ _ ?_ ).mono ?_);(· (refine isD_n (L.getN ?_);(repeat (first | (with_reducible exact mS) | apply mT))));rintro e wh ⟨vh,rfl,id,be⟩;obtain ⟨A9,c9,rfl,_,in9⟩:=id.form;replace L:=(L.step be).n in9;clear be id in9;(try (obtain ⟨x00,x01,x02,x03,x04,x05⟩:=L.b0.a6;obtain ⟨y00,y01,y02,y03,y04,y05⟩:=L.b0.f6))))
 clear c00 f00 c01 f01 c02 f02 c03 f03 c04 f04 c05 f05 c10 c11 c12 c20 c21 c22
 go_wp2_with fail
 have LP:=L.putI (by omega) (by first | (simp;done) | (simp;omega)) (ng m) A8 (zl m) c8 e (ng n) A9 (zl n) c9 f
 obtain ⟨k0,k1,k2,k3,k4,k5⟩:=LP.b0.a6
 unfold put6 at k0 k1 k2 k3 k4 k5
 exact bodyPost_ret (v:=.agg #[.bool (ng m),.slice A8 (zl m) c8,.int .i64 e,.bool (ng n),.slice A9 (zl n) c9,.int .i64 f]) (by simp [results,Tryz.results223,go_sem,k0,k1,k2,k3,k4,k5]) rfl ⟨_,rfl,isI_n (LP.getN (by simp)) (LP.getN (by simp)),LP.below⟩
theorem i10point_any (m e:Int) (vx:Value) (w:World) (hx:IsD w vx m e) (lm:zl m≤1000) (he:-20000≤e∧e≤20000) (_hv:Dv m e) :
  Calls Tryz.prog 171 #[vx] w (RetI6 w m e m e):=by
 obtain ⟨A,c,rfl,_,hn1⟩:=hx.form
 have L0:=(Lq.mk0 w).n hn1
 have H1:=Hd9 (fun v u W k1 k2 => ibetween_any m e m e v u W k1 k2 lm lm (by omega) (by omega))
 clear hx hn1 lm he
 go_enter Tryz.func171,Tryz.ntmps171
 go_wp2_with fail
 have L:=((L0.varD (w.heap.size) (by simp) (ng m) A (zl m) c e).varI (w.heap.size + 1) (by simp) false none 0 0 0 false none 0 0 0)
 obtain ⟨c00,c01,c02,c03,c04,c05⟩:=L.b0.a6
 obtain ⟨f00,f01,f02,f03,f04,f05⟩:=L.b0.f6
 obtain ⟨c10,c11,c12⟩:=L.tl.b0.a3
 (try go_wp2_with fail)
 refine (H1.out _ _ _ (isD_n (m:=m) (e:=e) (s:=.slice A (zl m) c) (L.getN (v:=.slice A (zl m) c) (x:=(m).natAbs) (by simp))) (isD_n (m:=m) (e:=e) (s:=.slice A (zl m) c) (L.getN (v:=.slice A (zl m) c) (x:=(m).natAbs) (by simp)))).mono ?_
 rintro e w1 ⟨v8,rfl,ii,be⟩
 clear c00 f00 c01 f01 c02 f02 c03 f03 c04 f04 c05 f05 c10 c11 c12
 obtain ⟨A8,c8,B8,d8,rfl,ia,ib⟩:=ii.form
 replace L:=((L.step be).n ib).n ia
 clear be ii ia ib
 obtain ⟨c00,c01,c02,c03,c04,c05⟩:=L.b0.a6
 obtain ⟨f00,f01,f02,f03,f04,f05⟩:=L.b0.f6
 (try go_wp2_with fail)
 have LP:=L.putI (by omega) (by first | (simp;done) | (simp;omega)) (ng m) A8 (zl m) c8 e (ng m) B8 (zl m) d8 e
 obtain ⟨k0,k1,k2,k3,k4,k5⟩:=LP.b0.a6
 unfold put6 at k0 k1 k2 k3 k4 k5
 exact bodyPost_ret (v:=.agg #[.bool (ng m),.slice A8 (zl m) c8,.int .i64 e,.bool (ng m),.slice B8 (zl m) d8,.int .i64 e]) (by simp [results,Tryz.results171,go_sem,k0,k1,k2,k3,k4,k5]) rfl ⟨_,rfl,isI_n (LP.getN (by simp)) (LP.getN (by simp)),LP.below⟩
theorem dshift_any (m e k:Int) (vx:Value) (w:World) (hx:IsD w vx m e) (lm:zl m≤20000) (he:-1000000≤e∧e≤1000000) (hk:-65536≤k∧k≤65536) (hT:Tab w) :
  Calls Tryz.prog 160 #[vx,.int .i64 k] w (RetDE w (mkM m (e + k)) (mkE m (e + k)) (mkR m (e + k))):=by
 obtain ⟨A,c,rfl,hz,hn⟩:=hx.form
 have L0:=(Lq.mk0 w).z hz
 obtain ⟨s,hs⟩:=nm9 (e + k)
 have hw:IntKind.i64.wrap (e + k) = s:=by rw [← hs,IntKind.wrap_i64];omega
 have hw0:=fun W => within_any k 65536 W (by omega) (by omega)
 have hin:(decide (-65536≤k) && decide (k≤65536)) = true:=by rw [decide_eq_true hk.1,decide_eq_true hk.2];rfl
 rw [hin] at hw0
 have HW:=Hd9 hw0
 have HM0:=fun v W h (hW:Below w.heap.size w W) => dmake_any m s v W h (by omega) (hT.mono hW)
 rw [hs]
 generalize mkM m s = M at *
 generalize mkE m s = E at *
 generalize mkR m s = R at *
 have HM:=Hd9 HM0
 clear HM0 hw0 hin hs hx hz hn lm he hk hT
 go_enter Tryz.func160,Tryz.ntmps160
 go_wp2_with fail
 have L:=((L0.varD (w.heap.size) (by simp) (ng m) A (zl m) c e).varD (w.heap.size + 1) (by simp) false none 0 0 0)
 obtain ⟨c00,c01,c02⟩:=L.b0.a3
 obtain ⟨f00,f01,f02⟩:=L.b0.f3
 obtain ⟨c10,c11,c12⟩:=L.tl.b0.a3
 obtain ⟨f10,f11,f12⟩:=L.tl.b0.f3
 (try go_wp2_with fail)
 refine (HW.out _).mono ?_
 rintro e9 w' ⟨rfl,rfl⟩
 (try go_wp2_with fail)
 refine (HM.out _ _ (L.getZ (v:=.agg #[.bool (ng m),.slice A (zl m) c]) (by simp)) L.below).mono ?_
 rintro e w1 ⟨v8,rfl,id,be⟩
 clear c00 f00 c01 f01 c02 f02 c10 f10 c11 f11 c12 f12
 obtain ⟨A9,c9,rfl,_,in9⟩:=id.form
 replace L:=(L.step be).n in9
 clear be in9 id
 obtain ⟨c00,c01,c02⟩:=L.b0.a3
 obtain ⟨f00,f01,f02⟩:=L.b0.f3
 obtain ⟨c10,c11,c12⟩:=L.tl.b0.a3
 (try go_wp2_with fail)
 have LP:=L.putD (by omega) (by first | (simp;done) | (simp;omega)) (ng M) A9 (zl M) c9 (E)
 obtain ⟨k0,k1,k2⟩:=LP.b0.a3
 unfold put3 at k0 k1 k2
 exact bodyPost_ret (v:=.tuple #[.agg #[.bool (ng M),.slice A9 (zl M) c9,.int .i64 (E)],.int .i64 R]) (by simp [results,Tryz.results160,go_sem,k0,k1,k2]) rfl ⟨_,rfl,isD_n LP.hn,LP.below⟩
theorem i10out_yes (m e n f p:Int) (vx:Value) (w:World) (hx:IsI w vx m e n f) (lm:zl m≤1000) (ln:zl n≤1000) (he:-20000≤e∧e≤20000) (hf:-20000≤f∧f≤20000) (hp1:-9223372036854775808≤p) (hp2:p≤9223372036854775807) (hp:permB p = true) (r1:mkR (cutQ (dq m e) p) (-p) = 0) (r2:mkR (-(cutQ (-(dq n f)) p)) (-p) = 0) (hT:Tab w) :
  Calls Tryz.prog 124 #[vx,.int .i64 p] w (RetIE w (mkM (cutQ (dq m e) p) (-p)) (mkE (cutQ (dq m e) p) (-p)) (mkM (-(cutQ (-(dq n f)) p)) (-p)) (mkE (-(cutQ (-(dq n f)) p)) (-p)) 0):=by
 obtain ⟨A,c,B,d,rfl,hn1,hn2⟩:=hx.form
 have L0:=((Lq.mk0 w).n hn2).n hn1
 have h1:=fun v W h (hW:Below w.heap.size w W) => gfloor_any m e p v W h (by omega) (by omega) hp1 hp2 (hT.mono hW)
 have h2:=fun v W h (hW:Below w.heap.size w W) => gceil_any n f p v W h (by omega) (by omega) hp1 hp2 (hT.mono hW)
 rw [(g_yes hp (cutQ (dq m e) p)).1,(g_yes hp (cutQ (dq m e) p)).2.1,(g_yes hp (cutQ (dq m e) p)).2.2] at h1
 rw [(g_yes hp (-(cutQ (-(dq n f)) p))).1,(g_yes hp (-(cutQ (-(dq n f)) p))).2.1,(g_yes hp (-(cutQ (-(dq n f)) p))).2.2] at h2
 rw [r1] at h1
 rw [r2] at h2
 generalize mkM (cutQ (dq m e) p) (-p) = M at *
 generalize mkE (cutQ (dq m e) p) (-p) = E at *
 generalize mkM (-(cutQ (-(dq n f)) p)) (-p) = N at *
 generalize mkE (-(cutQ (-(dq n f)) p)) (-p) = G at *
 have H1:=Hd9 h1
 have H2:=Hd9 h2
 clear h1 h2 hx hn1 hn2 lm ln he hf hp1 hp2 hp hT r1 r2
 go_enter Tryz.func124,Tryz.ntmps124
 go_wp2_with fail
 have L:=((L0.varI (w.heap.size) (by simp) (ng m) A (zl m) c e (ng n) B (zl n) d f).varI (w.heap.size + 1) (by simp) false none 0 0 0 false none 0 0 0)
 obtain ⟨c00,c01,c02,c03,c04,c05⟩:=L.b0.a6
 obtain ⟨f00,f01,f02,f03,f04,f05⟩:=L.b0.f6
 obtain ⟨c10,c11,c12,c13,c14,c15⟩:=L.tl.b0.a6
 (try go_wp2_with fail)
 refine (H1.out _ _ (isD_n (m:=m) (e:=e) (s:=.slice A (zl m) c) (L.getN (v:=.slice A (zl m) c) (x:=(m).natAbs) (by simp))) L.below).mono ?_
 rintro e w1 ⟨vv,rfl,id,be⟩
 clear c00 f00 c01 f01 c02 f02 c03 f03 c04 f04 c05 f05 c10 c11 c12 c13 c14 c15
 obtain ⟨A8,c8,rfl,_,in9⟩:=id.form
 replace L:=(L.step be).n in9
 clear be id in9
 have hlg:=L.b0.lt
 replace L:=L.varD w1.heap.size rfl (ng M) A8 (zl M) c8 E
 obtain ⟨c00,c01,c02⟩:=L.b0.a3
 obtain ⟨c20,c21,c22,c23,c24,c25⟩:=L.tl.tl.b0.a6
 go_wp2_with fail
 obtain ⟨g,hg⟩:=nm9 (w1.heap.size)
 rw [hg] at L hlg c00 c01 c02 ⊢
 clear hg
 refine (H2.out _ _ (isD_n (m:=n) (e:=f) (s:=.slice B (zl n) d) (L.getN (v:=.slice B (zl n) d) (x:=(n).natAbs) (by simp))) L.below).mono ?_
 rintro e w2 ⟨vv,rfl,id,be⟩
 clear c00 c01 c02 c20 c21 c22 c23 c24 c25
 obtain ⟨A9,c9,rfl,_,in9⟩:=id.form
 replace L:=(L.step be).n in9
 clear be id in9
 have hlk9:=L.b0.lt
 replace L:=L.varD w2.heap.size rfl (ng N) A9 (zl N) c9 G
 have n1:w.heap.size + 1 ≠ g:=by omega
 have n2:w.heap.size + 1 ≠ w2.heap.size:=by omega
 replace L:=L.pull2
 obtain ⟨c00,c01,c02,c03,c04,c05⟩:=L.b0.a6
 obtain ⟨f00,f01,f02,f03,f04,f05⟩:=L.b0.f6
 obtain ⟨c10,c11,c12⟩:=L.tl.b0.a3
 obtain ⟨c20,c21,c22⟩:=L.tl.tl.b0.a3
 go_wp2_with fail
 have LP:=L.putI (by omega) (by simp [n1,n2,Ne.symm n1,Ne.symm n2]) (ng M) A8 (zl M) c8 E (ng N) A9 (zl N) c9 G
 obtain ⟨k0,k1,k2,k3,k4,k5⟩:=LP.b0.a6
 unfold put6 at k0 k1 k2 k3 k4 k5
 exact bodyPost_ret (v:=.tuple #[.agg #[.bool (ng M),.slice A8 (zl M) c8,.int .i64 E,.bool (ng N),.slice A9 (zl N) c9,.int .i64 G],.int .i64 0]) (by simp [results,Tryz.results124,go_sem,k0,k1,k2,k3,k4,k5]) rfl ⟨_,rfl,isI_n (LP.getN (by simp)) (LP.getN (by simp)),LP.below⟩
def chkH (p:Nat):List Int → Int → Option Int
 | [],C => some C
 | S :: r,C => if decide (0≤S) && (decide (S * S≤C * C + 2 ^ p * 2 ^ p) && decide (C * C + 2 ^ p * 2 ^ p + 1≤(S + 1) * (S + 1))) then chkH p r (C + S) else none
theorem chkH_hv {p:Nat} {C0:Int} (l:List Int):∀ {j:Nat} {C D:Int},HvI p C0 j C → chkH p l C = some D → HvI p C0 (j + l.length) D:=by
  induction l with
  | nil => intro j C D h e;cases e;exact h
  | cons S r ih =>
    intro j C D h e
    have e2:chkH p (S :: r) C = if decide (0≤S) && (decide (S * S≤C * C + 2 ^ p * 2 ^ p) && decide (C * C + 2 ^ p * 2 ^ p + 1≤(S + 1) * (S + 1))) then chkH p r (C + S) else none:=rfl
    rw [e2] at e
    split at e
    · next hb =>
      rw [Bool.and_eq_true,Bool.and_eq_true] at hb
      have:=ih (h.step ⟨of_decide_eq_true hb.1,of_decide_eq_true hb.2.1,of_decide_eq_true hb.2.2⟩) e
      rwa [show j + 1 + r.length = j + (S :: r).length by simp;omega] at this
    · cases e
def agB (p:Nat) (C0:Int) (l:List Int) (X:Int) (n:Nat):Bool:=match chkH p l C0 with
 | none => false
 | some C => decide (l.length≤11) && (decide (1024 * 2 ^ p≤C) && (decide (0≤X) && (decide (X * 1024≤2 ^ p) && (decide (X * C≤2 ^ p * 2 ^ p) && (decide (2 ^ p * 2 ^ p≤(X + 1) * C) && (decide (pwA (X * X / 2 ^ p) X p n = 0) && decide (n≤300)))))))
theorem agB_ok {p:Nat} {C0:Int} {l:List Int} {X:Int} {n:Nat} (h0:0≤C0) (h:agB p C0 l X n = true):AgI p C0 (smA (X * X / 2 ^ p) X p n * 2 ^ l.length):=by
  unfold agB at h
  cases hc:chkH p l C0 with
  | none => rw [hc] at h;cases h
  | some C =>
    rw [hc] at h
    simp only [Bool.and_eq_true,decide_eq_true_eq] at h
    obtain ⟨h1,h2,h3,h4,h5,h6,h7,h8⟩:=h
    have hv:=chkH_hv l (HvI.first h0) hc
    rw [Nat.zero_add] at hv
    have e:∀ x y:Int,dq x (-(p:Int)) * dq y (-(p:Int)) = dq (x * y) (-(2 * (p:Int))):=fun x y => by rw [← dq_mul,show -(p:Int) + -(p:Int) = -(2 * (p:Int)) by omega]
    have one:dq (2 ^ p * 2 ^ p) (-(2 * (p:Int))) = 1:=by rw [← e,dq_scale (2 ^ p),two_cast];exact Rat.one_mul 1
    refine ang_end hv h1 h2 ⟨h3,h4,rfl⟩ ?_ ?_ h7 h8
    · rw [e,← one]
      exact (dq_le_iff _ _ _).2 h5
    · rw [← dq_succ,e,← one]
      exact (dq_le_iff _ _ _).2 h6
def hl1:List Int:=[4854144976951898484138253545293905541163285372944040890261730987545933979380808102295273332944599415299549742394460048703522978425979551053023782779153732004,8969290384096661594157619675319866162388905900682120289691605901743742734070603338724299493707119061766802287619742945165590501275937051288461501796191577949,17593895968768485557227143617215962571356850823021065913504000812842033355026556221194151977053139232496866906408030585251951894463541908574987453597235291893,35018353101555863887651634738568429691386414551581901478276083994628610779859244295180371721189358796602603730052974145916134587710898678496319221603365288652,69952343923244605351835814491459433134130833515048873808931445690769366831145720275162727429246870338082839816505152540249615970704986115938655420123821621787,139862551170196463482918133510615739491389733478955923369195441802860769138575749926137131344649034855050433361786335357973551829851842450281997905254895125723,279704039554641590306518271705733663507184013483262168253046800818410339965995742125860563183518868302363846391608468911195004689223398949491370573003635660484,559397548410283310724997031404079187591347507122427110819909173012814632769712228330727719067495105085017218600898766395499692190065772953599315465429177014085,1118789831557795738232828833394140684100791215373317874039566583454884153739429603799826637208758428876028453668960820035235413216289987554719920741592061371809,2237577030495046996862148459884200014834202420262284210740712855039573605273148281112989921295271858788197842719125689004357105862209160541673405767379987807040]
def hX1:Int:=2632617447074382384773402232446434428942990971479173632756833481250388253196671819766716378607548000580057195197610148067010196957006323066688054893594078
theorem ag1_b:agB 520 (1 * 2 ^ 520) hl1 hX1 27 = true:=by decide +kernel
def aZ1:Int:=smA (hX1 * hX1 / 2 ^ 520) hX1 520 27 * 2 ^ hl1.length
theorem at1_b:AtB 520 aZ1 (1:Rat)⁻¹:=by
 have e:dq (1 * 2 ^ 520) (-((520:Nat):Int)) = 1:=by rw [dq_scale,Rat.intCast_mul,Rat.mul_assoc,two_cast,Rat.mul_one];rfl
 refine (agB_ok (by decide +kernel) ag1_b).at (by decide +kernel) ?_ ?_
 ·rw [e,Rat.inv_inv];exact Rat.le_refl
 ·rw [e,Rat.inv_inv];have:=dq_pos (-((520:Nat):Int));grind
theorem dq_times (n c:Int) (e:Int):dq (n * c) e = (n:Rat) * dq c e:=by
 rw [dq_scale,dq_scale c,Rat.intCast_mul,Rat.mul_assoc]
theorem SpC.out15 {a b:Int} {v k j:Nat} {x:Rat} (h:SpC a b v x) (hj:v = k + j):dq (a / 2 ^ j) (-(k:Int))≤x∧x≤dq (cdv b (2 ^ j)) (-(k:Int)):=by
 have hp:=pow2_pos j
 have e:dq 1 (-(k:Int)) = dq 1 (-(v:Int)) * (((2:Int) ^ j:Int):Rat):=by
  have h1:=two_cast v
  have h2:=two_cast k
  rw [hj,Int.pow_add,Rat.intCast_mul] at h1
  rw [← hj] at h1
  have h3:=dq_pos (-(k:Int))
  grind
 have e2:∀ X:Int,dq X (-(k:Int)) = dq X (-(v:Int)) * (((2:Int) ^ j:Int):Rat):=fun X => by
  rw [dq_scale X,dq_scale X (-(v:Int)),e];grind
 refine ⟨Rat.le_trans ?_ h.1,Rat.le_trans h.2 ?_⟩
 ·rw [e2];exact fdiv_le hp _
 ·rw [e2];exact le_cdiv hp _
def AtW (j:Nat) (a b:Int) (x:Rat):Prop:=(∀ B,AtU x B → dq a (-(j:Int))≤B)∧(∀ A,AtL A x → A≤dq b (-(j:Int)))
theorem near_at {k j:Nat} {a b a1 b1 a2 b2:Int} {x y:Rat} (pa:EaA k a x) (pb:EaB k b y) (pl:AtW j a1 b1 x) (ph:AtW j a2 b2 y) :
  dq a (-(k:Int))≤dq b1 (-(j:Int))∧dq a1 (-(j:Int))≤dq a (-(k:Int)) + 2 * dq 1 (-(k:Int))∧dq a2 (-(j:Int))≤dq b (-(k:Int))∧dq b (-(k:Int)) - 2 * dq 1 (-(k:Int))≤dq b2 (-(j:Int)):=
 ⟨pl.2 _ pa.1,pl.1 _ pa.2,ph.1 _ pb.2,ph.2 _ pb.1⟩
theorem AtW.of {v:Nat} {s t:Int} {x:Rat} (h:AtL (dq s (-(v:Int))) x) (k:AtU x (dq t (-(v:Int)))):AtW v s t x:=⟨fun _ hB => at_le h hB Rat.le_refl,fun _ hA => at_le hA k Rat.le_refl⟩
theorem AtW.neg {v:Nat} {s t:Int} {x:Rat} (h:AtW v s t x):AtW v (-t) (-s) (-x):=by
 refine ⟨fun B hB => ?_,fun A hA => ?_⟩
 ·have h1:AtL (-B) x:=by
   have:=hB.neg
   rwa [Rat.neg_neg] at this
  have:=h.2 _ h1
  rw [dq_neg]
  grind
 ·have h1:AtU x (-A):=by
   have:=hA.neg
   rwa [Rat.neg_neg] at this
  have:=h.1 _ h1
  rw [dq_neg]
  grind
theorem AtW.out {v k j:Nat} {s t:Int} {x:Rat} (h:AtW v s t x) (hj:v = k + j):AtW k (s / 2 ^ j) (cdv t (2 ^ j)) x:=by
 have h1:=(SpC.out15 (a:=s) (b:=s) (x:=dq s (-(v:Int))) ⟨Rat.le_refl,Rat.le_refl⟩ hj).1
 have h2:=(SpC.out15 (a:=t) (b:=t) (x:=dq t (-(v:Int))) ⟨Rat.le_refl,Rat.le_refl⟩ hj).2
 exact ⟨fun B hB => Rat.le_trans h1 (h.1 B hB),fun A hA => Rat.le_trans (h.2 A hA) h2⟩
theorem AtL.pos {a x:Rat} (h:AtL a x) (hx:0 < x):LoC a x⁻¹:=by
 rcases h with ⟨_,h⟩ | ⟨h0,_⟩ | ⟨h0,_⟩
 ·exact h
 ·grind
 ·grind
theorem AtU.pos {b x:Rat} (h:AtU x b) (hx:0 < x):UpC x⁻¹ b:=by
 unfold AtU at h
 rcases h with ⟨h0,_⟩ | ⟨h0,_⟩ | ⟨_,h⟩
 ·grind
 ·grind
 ·rwa [Rat.neg_neg,Rat.neg_neg] at h
theorem kd_one9:kd 1 = 0:=by unfold kd;decide +kernel
def piOk (v:Nat):Bool:=decide ((piL v / 2) * 2 ^ (520 - v)≤2 * (aZ1 - 2097152)) && decide (2 * (aZ1 + 2097152)≤cdv (piH v) 2 * 2 ^ (520 - v))
theorem pi_ok_all:(List.range 200).all piOk = true:=by decide +kernel
theorem half_pi {v:Nat} (hv:v < 200):LoC (dq (piL v / 2) (-(v:Int))) 0∧UpC 0 (dq (cdv (piH v) 2) (-(v:Int))):=by
 have h:=List.all_eq_true.1 pi_ok_all v (List.mem_range.2 hv)
 unfold piOk at h
 rw [Bool.and_eq_true,decide_eq_true_eq,decide_eq_true_eq] at h
 have e:∀ X:Int,dq X (-(v:Int)) = dq (X * 2 ^ (520 - v)) (-((520:Nat):Int)):=fun X => by
  refine dq_eq (F := -((520:Nat):Int)) ?_ (by omega) (by omega)
  rw [show (-(v:Int) - -((520:Nat):Int)).toNat = 520 - v by omega,show (-((520:Nat):Int) - -((520:Nat):Int)).toNat = 0 by omega]
  simp
 obtain ⟨l,u⟩:=at1_b
 have i1:((1:Rat)⁻¹)⁻¹ = 1:=by decide +kernel
 have p1:(0:Rat) < (1:Rat)⁻¹:=by decide +kernel
 have l1:=l.pos p1
 have u1:=u.pos p1
 rw [i1] at l1 u1
 have l2:=l1.dbl (c:=0) (by decide +kernel) (by rw [kd_one9];exact Rat.le_refl)
 have u2:=u1.dbl (c:=0) (by decide +kernel) (by rw [kd_one9];exact Rat.le_refl)
 rw [e,e]
 have t1:dq (2 * (aZ1 - 2097152)) (-((520:Nat):Int)) = 2 * dq (aZ1 - 2097152) (-((520:Nat):Int)):=dq_times 2 _ _
 have t2:dq (2 * (aZ1 + 2097152)) (-((520:Nat):Int)) = 2 * dq (aZ1 + 2097152) (-((520:Nat):Int)):=dq_times 2 _ _
 exact ⟨l2.mono (by rw [← t1];exact (dq_le_iff _ _ _).2 h.1) Rat.le_refl,u2.mono (by rw [← t2];exact (dq_le_iff _ _ _).2 h.2) Rat.le_refl⟩
theorem cs_inv {q:Rat} (h:0 < q):cs q q⁻¹ = 0∧cs q⁻¹ q = 0:=by
 have e:=Rat.inv_mul_cancel q (Rat.ne_of_gt h)
 unfold cs
 rw [e,show q * q⁻¹ = 1 by rw [Rat.mul_comm];exact e]
 constructor <;> rw [Rat.sub_self,Rat.div_def,Rat.zero_mul]
theorem at_recip {v:Nat} {s t:Int} {q:Rat} (hv:v < 200) (hq:0 < q) (h:AtL (dq s (-(v:Int))) q⁻¹) (k:AtU q⁻¹ (dq t (-(v:Int)))):AtW v (piL v / 2 + -t) (cdv (piH v) 2 + -s) q:=by
 obtain ⟨p1,p2⟩:=half_pi hv
 have hi:=Rat.inv_pos.2 hq
 obtain ⟨c1,c2⟩:=cs_inv hq
 have h1:=h.pos hi
 have k1:=k.pos hi
 rw [Rat.inv_inv] at h1 k1
 refine ⟨fun B hB => ?_,fun A hA => ?_⟩
 ·have b1:=hB.pos hq
  have:=k1.add b1 (by grind)
  rw [c1] at this
  have:=p1.le this Rat.le_refl
  rw [dq_addI,dq_neg]
  grind
 ·have a1:=hA.pos hq
  have:=a1.add h1 hi hq
  rw [c2] at this
  have:=this.le p2 Rat.le_refl
  rw [dq_addI,dq_neg]
  grind
theorem cut_le16 {q q':Rat} (k:Int) (h:q≤q'):cutQ q k≤cutQ q' k:=(dq_le_iff _ _ _).1 (cut_mono (Int.le_refl k) h)
theorem cut_unit {q:Rat} (h0:0≤q) (h1:q≤1) (v:Nat):0≤cutQ q (v:Int)∧cutQ q (v:Int)≤-(cutQ (-q) (v:Int))∧-(cutQ (-q) (v:Int))≤2 ^ v:=by
 refine ⟨cut_nn h0 _,(SpC.at q v).le,?_⟩
 have h2:=cut_le16 (v:Int) (show -1≤-q by grind)
 have e:(-1:Rat) = dq (-(2 ^ v)) (-(v:Int)):=by rw [dq_neg,dq_P]
 rw [e,cut_self] at h2
 omega
theorem cut_big {q:Rat} (h1:1≤q) (v n:Nat):2 ^ v≤cutQ q ((v + n:Nat):Int) / 2 ^ n∧SpC (cutQ q ((v + n:Nat):Int) / 2 ^ n) (cdv (-(cutQ (-q) ((v + n:Nat):Int))) (2 ^ n)) v q:=by
 have hn:=pow2_pos n
 refine ⟨?_,(SpC.at q (v + n)).out15 rfl⟩
 have h2:=cut_le16 ((v + n:Nat):Int) h1
 have e:(1:Rat) = dq (2 ^ (v + n)) (-((v + n:Nat):Int)):=(dq_P (v + n)).symm
 rw [e,cut_self] at h2
 refine (Int.le_ediv_iff_mul_le hn).2 ?_
 rw [← Int.pow_add]
 exact h2
theorem inv_span {v:Nat} {c d:Int} (hc:2 ^ v≤c) (hd:c≤d):0≤mn4 (2 ^ v * 2 ^ v / c) (cdv (2 ^ v * 2 ^ v) c) (2 ^ v * 2 ^ v / d) (cdv (2 ^ v * 2 ^ v) d)∧mn4 (2 ^ v * 2 ^ v / c) (cdv (2 ^ v * 2 ^ v) c) (2 ^ v * 2 ^ v / d) (cdv (2 ^ v * 2 ^ v) d)≤mx4 (2 ^ v * 2 ^ v / c) (cdv (2 ^ v * 2 ^ v) c) (2 ^ v * 2 ^ v / d) (cdv (2 ^ v * 2 ^ v) d)∧mx4 (2 ^ v * 2 ^ v / c) (cdv (2 ^ v * 2 ^ v) c) (2 ^ v * 2 ^ v / d) (cdv (2 ^ v * 2 ^ v) d)≤2 ^ v:=by
 have hp:=pow2_pos v
 have hc0:0 < c:=by omega
 have hd0:0 < d:=by omega
 have pp:=Int.mul_nonneg (Int.le_of_lt hp) (Int.le_of_lt hp)
 have x1:=Int.ediv_nonneg pp (Int.le_of_lt hc0)
 have x2:=Int.ediv_nonneg pp (Int.le_of_lt hd0)
 have x3:=div_cdv hc0 (Int.le_refl ((2:Int) ^ v * 2 ^ v))
 have x4:=div_cdv hd0 (Int.le_refl ((2:Int) ^ v * 2 ^ v))
 have y1:cdv ((2:Int) ^ v * 2 ^ v) c≤2 ^ v:=(cdv_le hc0).2 (Int.mul_le_mul_of_nonneg_left hc (Int.le_of_lt hp))
 have y2:cdv ((2:Int) ^ v * 2 ^ v) d≤2 ^ v:=(cdv_le hd0).2 (Int.mul_le_mul_of_nonneg_left (Int.le_trans hc hd) (Int.le_of_lt hp))
 unfold mn4 mx4
 refine ⟨?_,?_,?_⟩ <;> omega

theorem Lq.sub {w0 w:World} {ns:List (Value × Nat)} {zs:List (Value × Int)} {qs:List (Value × Int × Nat)} {bs:List (Nat × TypeId × Array Value)} (h:Lq w0 w ns zs qs bs) {ns':List (Value × Nat)} {bs':List (Nat × TypeId × Array Value)} (h1:∀ p ∈ ns',p ∈ ns) (h2:∀ b ∈ bs',b ∈ bs):Lq w0 w ns' [] [] bs':=
 ⟨h.below,fun x hx => h.ns x (h1 x hx),fun _ x => (by cases x),fun _ x => (by cases x),fun x hx => h.bs x (h2 x hx)⟩

theorem s13atan_any (n:Int) (v:Nat) (w:World) (hn:2≤n) (hn2:n≤1000000) (hv:v≤10000) :
  Calls Tryz.prog 80 #[.int .i64 n,.int .i64 (v:Int)] w (RetSp w (atL n v) (atH n v)):=by
 have HN:=Hd9 hn
 have HV:=Hd9 hv
 have g1:=fun W => s13of_any 1 v W (by omega) (by omega) (by omega)
 have g0:=fun W => s13of_any 0 v W (by omega) (by omega) (by omega)
 rw [Int.one_mul] at g1
 rw [Int.zero_mul] at g0
 have t0:=tm_one v
 have q0:=at_first hn v
 have z0:=t0.abs.1.zl
 have g2:=fun x W h => s13over_any (2 ^ v) (2 ^ v) n x W h (by omega) (by omega) (Int.le_refl _) (by omega) (by omega)
 have HXY:=Hd9 (show atL n v = (atR n v 0 (2 ^ v / n) (cdv (2 ^ v) n) 0 0).1 - 2∧atH n v = (atR n v 0 (2 ^ v / n) (cdv (2 ^ v) n) 0 0).2 + 2 from ⟨rfl,rfl⟩)
 generalize atL n v = X at *
 generalize atH n v = Y at *
 generalize (2:Int) ^ v = P at *
 obtain ⟨a,ha⟩:=nm9 (P / n)
 obtain ⟨b,hb⟩:=nm9 (cdv P n)
 rw [ha,hb] at g2 q0 HXY
 obtain ⟨R,hR⟩:=nm9 (atR n v 0 a b 0 0)
 rw [hR] at HXY
 have HR:=Hd9 (And.intro q0 hR)
 have G0:=Hd9 g0
 have G1:=Hd9 g1
 have G2:=Hd9 g2
 clear g0 g1 g2 hR q0 t0 z0 ha hb
 go_enter Tryz.func80,Tryz.ntmps80
 have L:=((Lq.mk0 w).varS (w.heap.size) (by simp) false none 0 0 false none 0 0)
 (try go_wp2_with fail)
 obtain ⟨V,hV⟩:=nm9 (w.alloc (.cells #[.bool false,.slice none 0 0,.bool false,.slice none 0 0] 53))
 rw [hV] at L ⊢
 clear hV
 have hwV:=L.b0.lt
 have LL:=Hd9 L
 clear L
 have L:=Lq.mk0 V
 refine (G1.out _).mono ?_
 rintro e w1 ⟨vv,rfl,iq,be⟩
 obtain ⟨A5,c5,B5,d5,rfl,ia,ib⟩:=iq.form
 replace L:=((L.step be).n ib).n ia
 clear be iq ia ib
 go_wp2_with fail
 refine (G2.out _ _ (isS_n (a:=P) (b:=P) (s:=.slice A5 (zl P) c5) (t:=.slice B5 (zl P) d5) (L.getN (by simp)) (L.getN (by simp)))).mono ?_
 rintro e w2 ⟨vv,rfl,iq,be⟩
 obtain ⟨A1,c1,B1,d1,rfl,ia,ib⟩:=iq.form
 replace L:=((L.step be).n ib).n ia
 clear be iq ia ib
 have hVt:V.heap.size≤w2.heap.size:=L.below.size
 replace L:=L.varS w2.heap.size rfl (ng a) A1 (zl a) c1 (ng b) B1 (zl b) d1
 obtain ⟨c00,c01,c02,c03⟩:=L.b0.a4
 go_wp2_with fail
 clear c00 c01 c02 c03
 obtain ⟨gt,hgt⟩:=nm9 (w2.heap.size)
 rw [hgt] at L hVt ⊢
 clear hgt
 have hlt0:=L.b0.lt
 refine (G0.out _).mono ?_
 rintro e w3 ⟨vv,rfl,iq,be⟩
 obtain ⟨A2,c2,B2,d2,rfl,ia,ib⟩:=iq.form
 replace L:=((L.step be).n ib).n ia
 clear be iq ia ib
 have hlt1:=L.b0.lt
 replace L:=L.varS w3.heap.size rfl (ng 0) A2 (zl 0) c2 (ng 0) B2 (zl 0) d2
 obtain ⟨c00,c01,c02,c03⟩:=L.b0.a4
 obtain ⟨c10,c11,c12,c13⟩:=L.tl.b0.a4
 go_wp2_with fail
 clear c00 c01 c02 c03 c10 c11 c12 c13
 obtain ⟨gs,hgs⟩:=nm9 (w3.heap.size)
 rw [hgs] at L hlt1 ⊢
 clear hgs
 replace L:=L.swap
 clear hlt0 G0 G1 G2
 go_loopw [7] (fun i wr => ∃ (f k:Nat) (a b s u:Int) (A1 B1 A2 B2:Option Addr) (c1 d1 c2 d2:Nat),i = .int .i64 (k:Int)∧Lq V wr [(.slice A1 (zl a) c1,a.natAbs),(.slice B1 (zl b) d1,b.natAbs),(.slice A2 (zl s) c2,s.natAbs),(.slice B2 (zl u) d2,u.natAbs)] [] [] [(gt,53,#[.bool (ng a),.slice A1 (zl a) c1,.bool (ng b),.slice B1 (zl b) d1]),(gs,53,#[.bool (ng s),.slice A2 (zl s) c2,.bool (ng u),.slice B2 (zl u) d2])]∧Hid (SeI v f k a b s u∧atR n f k a b s u = R)) (fun i _ => v + 4 - (intOf i).toNat)
 case atStart => exact ⟨v,0,a,b,0,0,A1,B1,A2,B2,c1,d1,c2,d2,by go_num,L.sub (by simp) (by simp),HR⟩
 case round =>
  clear L HR
  obtain ⟨f,k,a,b,s,u,A1,B1,A2,B2,c1,d1,c2,d2,rfl,L,HR⟩:=hrel
  obtain ⟨sa,sb,ss,su,hab,hk⟩:=HR.out.1.sizes HV.out
  have hfk:=HR.out.1.2.1
  have tn0:=fun x W h => s13tiny_any a b x W h (by omega) (by omega)
  have hv:=HV.out
  have hn0:=HN.out
  have hl1:=L.b0.lt
  have hl2:=L.tl.b0.lt
  cases ht:tnB a b
  ·rw [ht] at tn0
   have TN:=Hd9 tn0
   obtain ⟨g,rfl,t1,t2,h1,h2⟩:=at_step HN.out HR.out.1 ht
   have x1:=t1.abs.1.zl
   have x2:=t1.abs.2.zl
   have x3:=t2.abs.1.zl
   have x4:=t2.abs.2.zl
   have x5:=t1.2.1
   have x6:=t2.2.1
   have o1:=fun x W h => s13over_any a b (2 * (k:Int) + 1) x W h (by omega) (by omega) hab (by omega) (by omega)
   have o2:=fun x W h => s13over_any a b n x W h (by omega) (by omega) hab (by omega) (by omega)
   have o3:=fun x W h => s13over_any (a / n) (cdv b n) n x W h (by omega) (by omega) x5 (by omega) (by omega)
   have o4:=fun x W h => s13neg_any (a / (2 * (k:Int) + 1)) (cdv b (2 * (k:Int) + 1)) x W h (by omega) (by omega)
   have y3:=zl_neg (a / (2 * (k:Int) + 1))
   have y4:=zl_neg (cdv b (2 * (k:Int) + 1))
   have o5:=fun x y W h j => s13add_any s u (a / (2 * (k:Int) + 1)) (cdv b (2 * (k:Int) + 1)) x y W h j (by omega) (by omega) (by omega) (by omega)
   have o6:=fun x y W h j => s13add_any s u (-(cdv b (2 * (k:Int) + 1))) (-(a / (2 * (k:Int) + 1))) x y W h j (by omega) (by omega) (by omega) (by omega)
   have hkv:k≤v + 2:=by omega
   have hE:=HR.out.2
   obtain ⟨q,hq⟩:∃ q:Int,2 * (k:Int) + 1 = q:=⟨_,rfl⟩
   have w1:IntKind.i64.wrap (2 * (k:Int)) = 2 * (k:Int):=by rw [IntKind.wrap_i64];omega
   have w2:IntKind.i64.wrap (2 * (k:Int) + 1) = q:=by rw [IntKind.wrap_i64];omega
   have w3:IntKind.i64.wrap ((k:Int) + 1) = (k:Int) + 1:=by rw [IntKind.wrap_i64];omega
   rw [hq] at o1 o4 o5 o6 h1 h2
   obtain ⟨p,hp⟩:=nm9 (a / q)
   rw [hp] at o1 o4 o5 o6 h1 h2
   obtain ⟨r,hr⟩:=nm9 (cdv b q)
   rw [hr] at o1 o4 o5 o6 h1 h2
   obtain ⟨a3,ha3⟩:=nm9 (a / n)
   rw [ha3] at o2 o3 h1 h2
   obtain ⟨b3,hb3⟩:=nm9 (cdv b n)
   rw [hb3] at o2 o3 h1 h2
   obtain ⟨a4,ha4⟩:=nm9 (a3 / n)
   rw [ha4] at o3 h1 h2
   obtain ⟨b4,hb4⟩:=nm9 (cdv b3 n)
   rw [hb4] at o3 h1 h2
   have O1:=Hd9 o1
   have O2:=Hd9 o2
   have O3:=Hd9 o3
   clear o1 o2 o3 tn0 hq hp hr ha3 hb3 ha4 hb4 t1 t2 x1 x2 x3 x4 x5 x6 y3 y4 sa sb ss su hab hn0 HR
   by_cases hk2:k % 2 = 1
   ·obtain ⟨n1,n2⟩:=h1 hk2
    rw [n2] at hE
    have m1:((k:Int).tmod 2 == 1) = true:=by rw [beq_iff_eq,Int.tmod_eq_emod_of_nonneg (by omega)];omega
    have m2:((k:Int) % 2 == 1) = true:=by rw [beq_iff_eq];omega
    have O4:=Hd9 o4
    obtain ⟨p2,hp2⟩:=nm9 (-r)
    obtain ⟨r2,hr2⟩:=nm9 (-p)
    rw [hp2,hr2] at O4 o6 n1 hE
    obtain ⟨s4,hs4⟩:=nm9 (s + p2)
    obtain ⟨u4,hu4⟩:=nm9 (u + r2)
    rw [hs4,hu4] at o6 n1 hE
    have O5:=Hd9 o6
    have HR:=Hd9 (And.intro n1 hE)
    clear o4 o5 o6 h1 h2 n1 n2 hE hk2 hp2 hr2 hs4 hu4 ht hfk
    obtain ⟨cel00,cel01,cel02,cel03⟩:=L.b0.a4
    go_wp2_with fail
    refine (TN.out _ _ (isS_n (a:=a) (b:=b) (s:=.slice A1 (zl a) c1) (t:=.slice B1 (zl b) d1) (L.getN (by simp)) (L.getN (by simp)))).mono ?_
    rintro e w11 ⟨rfl,be⟩
    clear cel00 cel01 cel02 cel03
    replace L:=L.step be
    clear be
    obtain ⟨cel00,cel01,cel02,cel03⟩:=L.b0.a4
    go_wp2_with fail
    refine (O1.out _ _ (isS_n (a:=a) (b:=b) (s:=.slice A1 (zl a) c1) (t:=.slice B1 (zl b) d1) (L.getN (by simp)) (L.getN (by simp)))).mono ?_
    rintro e w12 ⟨vv,rfl,iq,be⟩
    clear cel00 cel01 cel02 cel03
    obtain ⟨A3,c3,B3,d3,rfl,ia,ib⟩:=iq.form
    replace L:=((L.step be).n ib).n ia
    clear be iq ia ib
    have hl3:=L.b0.lt
    have hl4:=L.tl.b0.lt
    replace L:=L.varS w12.heap.size rfl (ng p) A3 (zl p) c3 (ng r) B3 (zl r) d3
    obtain ⟨cel00,cel01,cel02,cel03⟩:=L.b0.a4
    go_wp2_with fail
    clear cel00 cel01 cel02 cel03
    obtain ⟨gx,hgx⟩:=nm9 (w12.heap.size)
    rw [hgx] at L hl3 hl4 ⊢
    clear hgx
    have hVx:V.heap.size≤gx:=by omega
    have hVs:V.heap.size≤gs:=by omega
    refine (O4.out _ _ (isS_n (a:=p) (b:=r) (s:=.slice A3 (zl p) c3) (t:=.slice B3 (zl r) d3) (L.getN (by simp)) (L.getN (by simp)))).mono ?_
    rintro e w13 ⟨vv,rfl,iq,be⟩
    obtain ⟨A4,c4,B4,d4,rfl,ia,ib⟩:=iq.form
    replace L:=((L.step be).n ib).n ia
    clear be iq ia ib
    obtain ⟨cel00,cel01,cel02,cel03⟩:=L.b0.a4
    obtain ⟨f00,f01,f02,f03⟩:=L.b0.f4
    have P:=L.putS (by omega) (by first | (simp;done) | (simp;omega)) (ng p2) A4 (zl p2) c4 (ng r2) B4 (zl r2) d4
    obtain ⟨p00,p01,p02,p03⟩:=P.b0.a4
    obtain ⟨p20,p21,p22,p23⟩:=P.tl.tl.b0.a4
    unfold put4 at p00 p01 p02 p03 p20 p21 p22 p23 P
    go_wp2_with fail
    replace L:=P
    clear P p00 p01 p02 p03 p20 p21 p22 p23
    clear cel00 f00 cel01 f01 cel02 f02 cel03 f03
    refine (O5.out _ _ _ (isS_n (a:=s) (b:=u) (s:=.slice A2 (zl s) c2) (t:=.slice B2 (zl u) d2) (L.getN (by simp)) (L.getN (by simp))) (isS_n (a:=p2) (b:=r2) (s:=.slice A4 (zl p2) c4) (t:=.slice B4 (zl r2) d4) (L.getN (by simp)) (L.getN (by simp)))).mono ?_
    rintro e w14 ⟨vv,rfl,iq,be⟩
    obtain ⟨A6,c6,B6,d6,rfl,ia,ib⟩:=iq.form
    replace L:=((L.step be).n ib).n ia
    clear be iq ia ib
    obtain ⟨cel20,cel21,cel22,cel23⟩:=L.tl.tl.b0.a4
    obtain ⟨f20,f21,f22,f23⟩:=L.tl.tl.b0.f4
    have P:=L.pull2.putS (by omega) (by first | (simp;done) | (simp;omega)) (ng s4) A6 (zl s4) c6 (ng u4) B6 (zl u4) d6
    obtain ⟨p20,p21,p22,p23⟩:=P.tl.tl.b0.a4
    unfold put4 at p20 p21 p22 p23 P
    go_wp2_with fail
    replace L:=P
    clear P p20 p21 p22 p23
    clear cel20 f20 cel21 f21 cel22 f22 cel23 f23
    refine (O2.out _ _ (isS_n (a:=a) (b:=b) (s:=.slice A1 (zl a) c1) (t:=.slice B1 (zl b) d1) (L.getN (by simp)) (L.getN (by simp)))).mono ?_
    rintro e w15 ⟨vv,rfl,iq,be⟩
    obtain ⟨A7,c7,B7,d7,rfl,ia,ib⟩:=iq.form
    replace L:=((L.step be).n ib).n ia
    clear be iq ia ib
    go_wp2_with fail
    refine (O3.out _ _ (isS_n (a:=a3) (b:=b3) (s:=.slice A7 (zl a3) c7) (t:=.slice B7 (zl b3) d7) (L.getN (by simp)) (L.getN (by simp)))).mono ?_
    rintro e w16 ⟨vv,rfl,iq,be⟩
    obtain ⟨A8,c8,B8,d8,rfl,ia,ib⟩:=iq.form
    replace L:=((L.step be).n ib).n ia
    clear be iq ia ib
    obtain ⟨cel20,cel21,cel22,cel23⟩:=L.tl.tl.b0.a4
    obtain ⟨f20,f21,f22,f23⟩:=L.tl.tl.b0.f4
    replace L:=L.pull2.putS (by omega) (by first | (simp;done) | (simp;omega)) (ng a4) A8 (zl a4) c8 (ng b4) B8 (zl b4) d8
    unfold put4 at L
    go_wp2_with fail
    go_roundw
    case rel => exact ⟨g,k + 1,a4,b4,s4,u4,A8,B8,A6,B6,c8,d8,c6,d6,by go_num,L.sub (by simp) (by simp),HR⟩
    case measure => simp [intOf];omega
   ·obtain ⟨n1,n2⟩:=h2 hk2
    rw [n2] at hE
    have m1:((k:Int).tmod 2 == 1) = false:=by rw [beq_eq_false_iff_ne,Int.tmod_eq_emod_of_nonneg (by omega)];omega
    have m2:((k:Int) % 2 == 1) = false:=by rw [beq_eq_false_iff_ne];omega
    obtain ⟨s4,hs4⟩:=nm9 (s + p)
    obtain ⟨u4,hu4⟩:=nm9 (u + r)
    rw [hs4,hu4] at o5 n1 hE
    have O5:=Hd9 o5
    have HR:=Hd9 (And.intro n1 hE)
    clear o4 o5 o6 h1 h2 n1 n2 hE hk2 hs4 hu4 ht hfk
    obtain ⟨cel00,cel01,cel02,cel03⟩:=L.b0.a4
    go_wp2_with fail
    refine (TN.out _ _ (isS_n (a:=a) (b:=b) (s:=.slice A1 (zl a) c1) (t:=.slice B1 (zl b) d1) (L.getN (by simp)) (L.getN (by simp)))).mono ?_
    rintro e w11 ⟨rfl,be⟩
    clear cel00 cel01 cel02 cel03
    replace L:=L.step be
    clear be
    obtain ⟨cel00,cel01,cel02,cel03⟩:=L.b0.a4
    go_wp2_with fail
    refine (O1.out _ _ (isS_n (a:=a) (b:=b) (s:=.slice A1 (zl a) c1) (t:=.slice B1 (zl b) d1) (L.getN (by simp)) (L.getN (by simp)))).mono ?_
    rintro e w12 ⟨vv,rfl,iq,be⟩
    clear cel00 cel01 cel02 cel03
    obtain ⟨A3,c3,B3,d3,rfl,ia,ib⟩:=iq.form
    replace L:=((L.step be).n ib).n ia
    clear be iq ia ib
    have hl3:=L.b0.lt
    have hl4:=L.tl.b0.lt
    replace L:=L.varS w12.heap.size rfl (ng p) A3 (zl p) c3 (ng r) B3 (zl r) d3
    obtain ⟨cel00,cel01,cel02,cel03⟩:=L.b0.a4
    obtain ⟨cel20,cel21,cel22,cel23⟩:=L.tl.tl.b0.a4
    go_wp2_with fail
    clear cel00 cel01 cel02 cel03 cel20 cel21 cel22 cel23
    obtain ⟨gx,hgx⟩:=nm9 (w12.heap.size)
    rw [hgx] at L hl3 hl4 ⊢
    clear hgx
    have hVx:V.heap.size≤gx:=by omega
    have hVs:V.heap.size≤gs:=by omega
    refine (O5.out _ _ _ (isS_n (a:=s) (b:=u) (s:=.slice A2 (zl s) c2) (t:=.slice B2 (zl u) d2) (L.getN (by simp)) (L.getN (by simp))) (isS_n (a:=p) (b:=r) (s:=.slice A3 (zl p) c3) (t:=.slice B3 (zl r) d3) (L.getN (by simp)) (L.getN (by simp)))).mono ?_
    rintro e w13 ⟨vv,rfl,iq,be⟩
    obtain ⟨A6,c6,B6,d6,rfl,ia,ib⟩:=iq.form
    replace L:=((L.step be).n ib).n ia
    clear be iq ia ib
    obtain ⟨cel20,cel21,cel22,cel23⟩:=L.tl.tl.b0.a4
    obtain ⟨f20,f21,f22,f23⟩:=L.tl.tl.b0.f4
    have P:=L.pull2.putS (by omega) (by first | (simp;done) | (simp;omega)) (ng s4) A6 (zl s4) c6 (ng u4) B6 (zl u4) d6
    obtain ⟨p20,p21,p22,p23⟩:=P.tl.tl.b0.a4
    unfold put4 at p20 p21 p22 p23 P
    go_wp2_with fail
    replace L:=P
    clear P p20 p21 p22 p23
    clear cel20 f20 cel21 f21 cel22 f22 cel23 f23
    refine (O2.out _ _ (isS_n (a:=a) (b:=b) (s:=.slice A1 (zl a) c1) (t:=.slice B1 (zl b) d1) (L.getN (by simp)) (L.getN (by simp)))).mono ?_
    rintro e w14 ⟨vv,rfl,iq,be⟩
    obtain ⟨A7,c7,B7,d7,rfl,ia,ib⟩:=iq.form
    replace L:=((L.step be).n ib).n ia
    clear be iq ia ib
    go_wp2_with fail
    refine (O3.out _ _ (isS_n (a:=a3) (b:=b3) (s:=.slice A7 (zl a3) c7) (t:=.slice B7 (zl b3) d7) (L.getN (by simp)) (L.getN (by simp)))).mono ?_
    rintro e w15 ⟨vv,rfl,iq,be⟩
    obtain ⟨A8,c8,B8,d8,rfl,ia,ib⟩:=iq.form
    replace L:=((L.step be).n ib).n ia
    clear be iq ia ib
    obtain ⟨cel20,cel21,cel22,cel23⟩:=L.tl.tl.b0.a4
    obtain ⟨f20,f21,f22,f23⟩:=L.tl.tl.b0.f4
    replace L:=L.pull2.putS (by omega) (by first | (simp;done) | (simp;omega)) (ng a4) A8 (zl a4) c8 (ng b4) B8 (zl b4) d8
    unfold put4 at L
    go_wp2_with fail
    go_roundw
    case rel => exact ⟨g,k + 1,a4,b4,s4,u4,A8,B8,A6,B6,c8,d8,c6,d6,by go_num,L.sub (by simp) (by simp),HR⟩
    case measure => simp [intOf];omega
  ·rw [ht] at tn0
   have TN:=Hd9 tn0
   have hE:=HR.out.2
   rw [atR_end ht] at hE
   obtain ⟨e1,e2⟩:=HXY.out
   rw [← hE] at e1 e2
   have o1:=fun x W h => s13wide_any s u 2 x W h (by omega) (by omega) (by omega) (by omega)
   rw [← e1,← e2] at o1
   have O1:=Hd9 o1
   clear o1 e1 e2 hE tn0 HXY HR sa sb ss su hab ht
   obtain ⟨cel00,cel01,cel02,cel03⟩:=L.b0.a4
   go_wp2_with fail
   refine (TN.out _ _ (isS_n (a:=a) (b:=b) (s:=.slice A1 (zl a) c1) (t:=.slice B1 (zl b) d1) (L.getN (by simp)) (L.getN (by simp)))).mono ?_
   rintro e w11 ⟨rfl,be⟩
   clear cel00 cel01 cel02 cel03
   replace L:=L.step be
   clear be
   have hvs:=L.tl.b0
   have ha2:=L.getN (v:=.slice A2 (zl s) c2) (x:=s.natAbs) (by simp)
   have hb2:=L.getN (v:=.slice B2 (zl u) d2) (x:=u.natAbs) (by simp)
   have L:=(((LL.out.step L.below).n hb2).n ha2).b hvs
   clear hvs ha2 hb2 LL
   obtain ⟨cel00,cel01,cel02,cel03⟩:=L.b0.a4
   go_wp2_with fail
   refine (O1.out _ _ (isS_n (a:=s) (b:=u) (s:=.slice A2 (zl s) c2) (t:=.slice B2 (zl u) d2) (L.getN (by simp)) (L.getN (by simp)))).mono ?_
   rintro e w12 ⟨vv,rfl,iq,be⟩
   clear cel00 cel01 cel02 cel03
   obtain ⟨A9,c9,B9,d9,rfl,ia,ib⟩:=iq.form
   replace L:=((L.step be).n ib).n ia
   clear be iq ia ib
   replace L:=L.swap
   have n1:w.heap.size ≠ gs:=by omega
   obtain ⟨cel00,cel01,cel02,cel03⟩:=L.b0.a4
   obtain ⟨f00,f01,f02,f03⟩:=L.b0.f4
   go_wp2_with fail
   have LP:=L.putS (by omega) (by first | (simp;done) | (simp;omega)) (ng X) A9 (zl X) c9 (ng Y) B9 (zl Y) d9
   obtain ⟨k0,k1,k2,k3⟩:=LP.b0.a4
   unfold put4 at k0 k1 k2 k3
   exact bodyPost_ret (v:=.agg #[.bool (ng X),.slice A9 (zl X) c9,.bool (ng Y),.slice B9 (zl Y) d9]) (by simp [results,Tryz.results80,go_sem,k0,k1,k2,k3]) rfl ⟨_,rfl,isS_n (LP.getN (by simp)) (LP.getN (by simp)),LP.below⟩

def RetIn (w:World) (v:Nat) (a b:Int) (en:Ending) (w':World):Prop:=∃ s t,RetSp w s t en w'∧InU v a b s t∧AbP s (2 * v + 8)∧AbP t (2 * v + 8)
theorem HvR.sizes {v j:Nat} {a0 b0 a b:Int} (h:HvR v j a0 b0 a b):WiI (2 ^ v + 1) a b∧WiI (4 * 2 ^ v) (msL v a b a b) (msH v a b a b):=by
 have hp:=pow2_pos v
 have pj:=pow2_pos j
 have h1:=h.nn
 have h2:=h.le
 have hb:b≤2 ^ v + 1:=by
  refine Int.not_lt.1 fun hlt => ?_
  have e1:2 ^ j * (2 ^ v + 2)≤2 ^ j * b:=Int.mul_le_mul_of_nonneg_left (by omega) (Int.le_of_lt pj)
  have e2:(2:Int) ^ j * (2 ^ v + 2) = 2 ^ j * 2 ^ v + 2 ^ j * 2:=Int.mul_add _ _ _
  have e3:(1:Int) * 2 ^ v≤2 ^ j * 2 ^ v:=Int.mul_le_mul_of_nonneg_right (by omega) (Int.le_of_lt hp)
  have:=h.sz
  omega
 have w:WiI (2 ^ v + 1) a b:=by unfold WiI;omega
 refine ⟨w,ms_wide2 w w ?_⟩
 generalize (2:Int) ^ v = P at *
 have e1:(P + 1) * (P + 1) = P * P + P + (P + 1):=by rw [Int.add_mul,Int.mul_add,Int.one_mul,Int.mul_one]
 have e2:4 * P * P = 4 * (P * P):=Int.mul_assoc _ _ _
 have e3:1 * P≤P * P:=Int.mul_le_mul_of_nonneg_right (by omega) (by omega)
 omega
theorem HvR.four {v:Nat} {a0 b0 a b:Int} (h:HvR v 4 a0 b0 a b) (hv:9≤v):WiI (2 ^ v / 16 + 1) a b∧WiI (2 ^ v / 16) (msL v a b a b) (msH v a b a b):=by
 obtain ⟨i,rfl⟩:∃ i,v = i + 9:=⟨v - 9,by omega⟩
 have hP:(2:Int) ^ (i + 9) = 512 * 2 ^ i:=by rw [Int.pow_add,Int.mul_comm];rfl
 have hi:=pow2_pos i
 have hsz:=h.sz
 have h1:=h.nn
 have h2:=h.le
 rw [show (2:Int) ^ 4 = 16 from rfl] at hsz
 have w:WiI (2 ^ (i + 9) / 16 + 1) a b:=by unfold WiI;omega
 refine ⟨w,ms_wide2 w w ?_⟩
 rw [hP]
 generalize (2:Int) ^ i = Q at *
 rw [show 512 * Q / 16 = 32 * Q by omega]
 have e1:(32 * Q + 1) * (32 * Q + 1)≤(64 * Q) * (64 * Q):=Int.mul_le_mul (by omega) (by omega) (by omega) (by omega)
 have e2:(64 * Q) * (64 * Q) = 4096 * (Q * Q):=by rw [Int.mul_assoc,← Int.mul_assoc Q,Int.mul_comm Q 64,Int.mul_assoc 64,← Int.mul_assoc 64 64];rfl
 have e3:32 * Q * (512 * Q) = 16384 * (Q * Q):=by rw [Int.mul_assoc,← Int.mul_assoc Q,Int.mul_comm Q 512,Int.mul_assoc 512,← Int.mul_assoc 32 512];rfl
 have e4:0≤Q * Q:=Int.mul_nonneg (by omega) (by omega)
 omega
theorem wi_zl {v n:Nat} {a b:Int} (h:WiI (4 * 2 ^ v) a b) (hv:v < 200) (hn:8≤n):zl a≤n∧zl b≤n:=by
 have e:(2:Nat) ^ (v + 2) = 4 * 2 ^ v:=by rw [Nat.pow_add,Nat.mul_comm]
 have e2:=pow_cast9 v
 rw [e2] at h
 unfold WiI at h
 have x:AbP a (v + 2):=by unfold AbP;rw [e];omega
 have y:AbP b (v + 2):=by unfold AbP;rw [e];omega
 have:=x.zl
 have:=y.zl
 omega
theorem WiI.up {M N a b:Int} (h:WiI M a b) (hM:M≤N):WiI N a b:=by unfold WiI at *;omega
theorem ra_end {v n f:Nat} {y z:Rat} {a b p q:Int} (h:RaJ v n f y z a b p q):AbP ((p - 3) * 16) (2 * v + 8)∧AbP ((q + 3) * 16) (2 * v + 8):=by
 obtain ⟨_,_,h1,h2⟩:=h.sizes
 have e:(2:Nat) ^ (2 * v + 8) = 256 * 2 ^ (2 * v):=by rw [Nat.pow_add];omega
 have hp:=Nat.pow_pos (n:=2 * v) (show 0 < 2 by omega)
 unfold AbP at *
 rw [e]
 omega
theorem spc_self {a b:Int} (v:Nat) (h:a≤b):SpC a b v (dq a (-(v:Int)))∧SpC a b v (dq b (-(v:Int))):=⟨⟨Rat.le_refl,(dq_le_iff _ _ _).2 h⟩,(dq_le_iff _ _ _).2 h,Rat.le_refl⟩
theorem spc_sq {a b:Int} {v:Nat} {y:Rat} (h:SpC a b v y):SpC (msL v a b a b) (msH v a b a b) v (y * y):=h.mul h
theorem s16inner_any (a b:Int) (v:Nat) (vx:Value) (w:World) (hx:IsS w vx a b) (ha:0≤a) (hab:a≤b) (hb:b≤2 ^ v) (hv:60≤v∧v < 200) :
  Calls Tryz.prog 70 #[vx,.int .i64 (v:Int)] w (RetIn w v a b):=by
 obtain ⟨A,c,B,d,rfl,hn1,hn2⟩:=hx.form
 have L0:=((Lq.mk0 w).n hn2).n hn1
 have HH:=Hd9 (HvR.first ha hab hb)
 have HV:=Hd9 hv
 obtain ⟨o,ho⟩:∃ o:Int,0 = o:=⟨_,rfl⟩
 have g8:=fun W => (s13of_any 0 v W (by omega) (by omega) (by omega)).mono (fun e w' h => (show RetSp W o o e w' by rw [Int.zero_mul,ho] at h;exact h))
 have G8:=Hd9 g8
 have HO:=Hd9 ho
 clear g8 ho hn1 hn2 ha hab hb hv hx
 go_enter Tryz.func70,Tryz.ntmps70
 have L:=((L0.varS (w.heap.size) (by simp) (ng a) A (zl a) c (ng b) B (zl b) d).varS (w.heap.size + 1) (by simp) false none 0 0 false none 0 0)
 (try go_wp2_with fail)
 go_loopw [10] (fun i wr => ∃ (j:Nat) (a1 b1:Int) (A1 B1:Option Addr) (c1 d1:Nat),i = .int .i64 (j:Int)∧j≤4∧Lq w wr [(.slice A1 (zl a1) c1,a1.natAbs),(.slice B1 (zl b1) d1,b1.natAbs)] [] [] [(w.heap.size,53,#[.bool (ng a1),.slice A1 (zl a1) c1,.bool (ng b1),.slice B1 (zl b1) d1]),(w.heap.size + 1,53,#[.bool false,.slice none 0 0,.bool false,.slice none 0 0])]∧Hid (HvR v j a b a1 b1)) (fun i _ => 4 - (intOf i).toNat)
 case atStart => exact ⟨0,a,b,A,B,c,d,by go_num,by omega,L.subx (by simp) (by simp),HH⟩
 case round =>
  clear L HH
  obtain ⟨j,a1,b1,A1,B1,c1,d1,rfl,hj,L,HR⟩:=hrel
  have hv:=HV.out
  obtain ⟨w1,w2⟩:=HR.out.sizes
  have hP:=pow2_pos v
  obtain ⟨s1,s2⟩:=wi_zl (n:=8) (w1.up (N:=4 * 2 ^ v) (by omega)) (by omega) (by omega)
  obtain ⟨s3,s4⟩:=wi_zl (n:=8) w2 (by omega) (by omega)
  have hl1:=L.b0.lt
  have hl2:=L.tl.b0.lt
  rcases Nat.lt_or_ge j 4 with hj2 | hjg
  ·have n1:=HR.out.step
   have hng:=ng_no n1.nn
   have o1:=fun x W h => s16half_any a1 b1 v x W h (by omega) (by omega) (by omega) (by omega) HR.out.le (by omega)
   obtain ⟨a3,ha3⟩:=nm9 (hfL v a1 b1)
   obtain ⟨b3,hb3⟩:=nm9 (hfH v a1 b1)
   rw [ha3,hb3] at o1 n1
   rw [ha3] at hng
   have O1:=Hd9 o1
   have HR2:=Hd9 n1
   have HNG:=Hd9 hng
   have hjl:(j:Int) < 4:=by omega
   have w4:IntKind.i64.wrap ((j:Int) + 1) = (j:Int) + 1:=by rw [IntKind.wrap_i64];omega
   clear o1 n1 ha3 hb3 w1 w2 s1 s2 s3 s4 hP HR hng
   obtain ⟨c00,c01,c02,c03⟩:=L.b0.a4
   go_wp2_with fail
   refine (O1.out _ _ (isS_n (a:=a1) (b:=b1) (s:=.slice A1 (zl a1) c1) (t:=.slice B1 (zl b1) d1) (L.getN (by simp)) (L.getN (by simp)))).mono ?_
   rintro e w11 ⟨vv,rfl,iq,be⟩
   clear c00 c01 c02 c03
   obtain ⟨A9,c9,B9,d9,rfl,ia,ib⟩:=iq.form
   replace L:=((L.step be).n ib).n ia
   clear be iq ia ib
   rw [HNG.out]
   obtain ⟨c00,c01,c02,c03⟩:=L.b0.a4
   obtain ⟨f00,f01,f02,f03⟩:=L.b0.f4
   replace L:=L.putS (by omega) (by first | (simp;done) | (simp;omega)) false A9 (zl a3) c9 (ng b3) B9 (zl b3) d9
   unfold put4 at L
   have n0:=L.b0.c40
   go_wp2_with fail
   go_roundw
   case rel => exact ⟨j + 1,a3,b3,A9,B9,c9,d9,by go_num,by omega,(by rw [HNG.out];exact L.subx (by simp) (by simp)),HR2⟩
   case measure => simp [intOf];omega
  ·obtain rfl:j = 4:=by omega
   have hjl:¬ (((4:Nat):Int) < 4):=by omega
   obtain ⟨w3,w4⟩:=HR.out.four (by omega)
   obtain ⟨y0,z0⟩:=spc_self v HR.out.le
   have ys:=spc_sq y0
   have zs:=spc_sq z0
   have r0:=RaJ.first (by omega) y0 z0 w3
   rw [HO.out] at r0
   have o7:∀ x y W,IsS W x a1 b1 → IsS W y a1 b1 → Calls Tryz.prog 127 #[x,y,.int .i64 (v:Int)] W (RetSp W (msL v a1 b1 a1 b1) (msH v a1 b1 a1 b1)):=fun x y W h j => s13mul_any a1 b1 a1 b1 v x y W h j (by omega) (by omega) (by omega) (by omega) (by omega)
   obtain ⟨q0,hq0⟩:=nm9 (msL v a1 b1 a1 b1)
   obtain ⟨q1,hq1⟩:=nm9 (msH v a1 b1 a1 b1)
   rw [hq0,hq1] at ys zs w4 o7
   rw [hq0] at s3
   rw [hq1] at s4
   have HEND:Hid (∀ (n:Nat) (c d p q:Int),AtI1 v n (dq a1 (-(v:Int))) c d p q → AtI1 v n (dq b1 (-(v:Int))) c d p q → tnB c d = true → InU v a b ((p - 3) * 16) ((q + 3) * 16)):=Hd9 (fun n c d p q y1 z1 ht => inner_end HR.out (by omega) y1 z1 ht)
   obtain ⟨Y,hY⟩:=nm9 (dq a1 (-(v:Int)))
   obtain ⟨Z,hZ⟩:=nm9 (dq b1 (-(v:Int)))
   rw [hY,hZ] at r0 HEND
   rw [hY] at ys
   rw [hZ] at zs
   have G7:=Hd9 o7
   have HR0:=Hd9 r0
   have HS:=Hd9 (And.intro ys (And.intro zs w4))
   have HZ:=Hd9 (And.intro s3 s4)
   clear o7 r0 ys zs w3 w4 w1 w2 y0 z0 s1 s2 s3 s4 hq0 hq1 hY hZ hP HR HO
   obtain ⟨c00,c01,c02,c03⟩:=L.b0.a4
   (try go_wp2_with fail)
   refine (G7.out _ _ _ (isS_n (a:=a1) (b:=b1) (s:=.slice A1 (zl a1) c1) (t:=.slice B1 (zl b1) d1) (L.getN (by simp)) (L.getN (by simp))) (isS_n (a:=a1) (b:=b1) (s:=.slice A1 (zl a1) c1) (t:=.slice B1 (zl b1) d1) (L.getN (by simp)) (L.getN (by simp)))).mono ?_
   rintro e w31 ⟨vv,rfl,iq,be⟩
   clear c00 c01 c02 c03
   obtain ⟨AS,cS,BS,dS,rfl,ia,ib⟩:=iq.form
   replace L:=((L.step be).n ib).n ia
   clear be iq ia ib
   have hl9:=L.tl.b0.lt
   replace L:=L.varS w31.heap.size rfl (ng q0) AS (zl q0) cS (ng q1) BS (zl q1) dS
   obtain ⟨c00,c01,c02,c03⟩:=L.b0.a4
   obtain ⟨c10,c11,c12,c13⟩:=L.tl.b0.a4
   (try go_wp2_with fail)
   clear c00 c01 c02 c03 c10 c11 c12 c13
   obtain ⟨gs,hgs⟩:=nm9 (w31.heap.size)
   rw [hgs] at L hl9 ⊢
   clear hgs
   have hl_gs:=hl9
   clear hl9
   obtain ⟨V2,hV,L9⟩:=L.name
   rw [hV]
   clear hV L
   have L:=L9
   clear L9
   have Q0:=Hd9 (fun Z (hZ:Below V2.heap.size V2 Z) => (L.tl.b0.mono hZ).c40)
   have Q1:=Hd9 (fun Z (hZ:Below V2.heap.size V2 Z) => (L.tl.b0.mono hZ).c41)
   have Q2:=Hd9 (fun Z (hZ:Below V2.heap.size V2 Z) => (L.tl.b0.mono hZ).c42)
   have Q3:=Hd9 (fun Z (hZ:Below V2.heap.size V2 Z) => (L.tl.b0.mono hZ).c43)
   have hb0:=L.tl.b0.lt
   have D0:Dq V2 V2 [(.slice A1 (zl a1) c1,(a1:Int).natAbs),(.slice B1 (zl b1) d1,(b1:Int).natAbs)] [] [] []:=⟨(((Lq.mk0 V2).n (L.getN (v:=.slice B1 (zl b1) d1) (x:=(b1:Int).natAbs) (by simp))).n (L.getN (v:=.slice A1 (zl a1) c1) (x:=(a1:Int).natAbs) (by simp))),List.nodup_nil,fun p hp => by cases hp⟩
   have D:=D0.drew
   have hVw:=L.below.size
   have LL:=Hd9 L
   clear L
   obtain ⟨K,hK⟩:=nm9 (V2.heap.size)
   have hz0:K≤V2.heap.size:=by omega
   have hc0:w.heap.size < K:=by omega
   go_cut [6,7] from 25 to 28 (fun s6 s7 wx => Made2S V2 a1 b1 o o s6 s7 wx)
   case first =>
    go_region_held3 (fun w' => w'.cell? ⟨w.heap.size,0,none⟩ = some (.bool (ng a1))∧w'.cell? ⟨w.heap.size,1,none⟩ = some (.slice A1 (zl a1) c1)∧w'.cell? ⟨w.heap.size,2,none⟩ = some (.bool (ng b1))∧w'.cell? ⟨w.heap.size,3,none⟩ = some (.slice B1 (zl b1) d1)) (((try dsimp only);refine keep4 Q0.out Q1.out Q2.out Q3.out ?_;(repeat (first | (with_reducible exact D.lq.below) | (with_reducible exact D0.lq.below) | (with_reducible refine Below.drew ?_) | (with_reducible refine bl_alloc _ ?_) | (with_reducible refine bl_set _ ?_ (by omega)))))) (first | (go_at_call 68;((with_reducible apply calls_sync2);(repeat (first | (with_reducible exact D) | (with_reducible exact D0) | (with_reducible apply Dq.drew) | (with_reducible apply Dq.boxS)));intro D2;replace D:=D2;clear D2;(try simp only [alloc_sz15,drew_sz15,hK] at D));(with_reducible refine (G8.out _).mono ?_);rintro e9 wh ⟨vh,rfl,iq,be⟩;obtain ⟨A3,c3,B3,d3,rfl,ia,ib⟩:=iq.form;have hs9:=be.size;(try simp only [alloc_sz15,drew_sz15,hK] at hs9);replace D:=((D.step be).n ib).n ia;clear iq ia ib be;(try (have vb:Var _ _ 53 _:=D.lq.b0;obtain ⟨q01,q02,q03,q04⟩:=vb.a4;obtain ⟨q05,q06,q07,q08⟩:=vb.f4;have q09:=vb.lt;clear vb));(try (have vb:Var _ _ 53 _:=D.lq.tl.b0;obtain ⟨q11,q12,q13,q14⟩:=vb.a4;obtain ⟨q15,q16,q17,q18⟩:=vb.f4;have q19:=vb.lt;clear vb))) | fail)
    all_goals
     go_wp2_with fail
     go_meet
     first
     | ((with_reducible apply made2s_a D) <;> (repeat (first | (with_reducible exact mS) | apply mT)))
     | ((with_reducible apply made2s_b D) <;> (repeat (first | (with_reducible exact mS) | apply mT)))
     | ((with_reducible apply made2s_c D) <;> (repeat (first | (with_reducible exact mS) | apply mT)))
     | ((with_reducible apply made2s_d D) <;> (repeat (first | (with_reducible exact mS) | apply mT)))
     | ((with_reducible apply made2s_e D) <;> (first | ((repeat (first | (with_reducible exact mS) | apply mT));done) | omega))
   case rest =>
    obtain ⟨gt,gu,A2,c2,B2,d2,A3,c3,B3,d3,rfl,rfl,hp1,hp2,hpq,bw,vt,vu,⟨i1,i2⟩,i3,i4⟩:=hcut
    have is0:=LL.out.getN (v:=.slice AS (zl q0) cS) (x:=q0.natAbs) (by simp)
    have is1:=LL.out.getN (v:=.slice BS (zl q1) dS) (x:=q1.natAbs) (by simp)
    have hgs:=LL.out.b0.lt
    have L:=((((((((((Lq.mk0 V2).n is1).n is0).b LL.out.b0).step bw).n i4).n i3).n i2).n i1).b vu).b vt
    clear D D0 vt vu i1 i2 i3 i4 is0 is1 bw hVw hz0 hK hc0 Q0 Q1 Q2 Q3 G7 G8
    generalize wc = wd2 at *
    (try go_wp2_with fail)
    go_loopw [8] (fun i wr => ∃ (g k:Nat) (m n p q:Int) (A1 B1 A2 B2:Option Addr) (c1 d1 c2 d2:Nat),i = .int .i64 (k:Int)∧Lq V2 wr [(.slice A1 (zl m) c1,(m).natAbs),(.slice B1 (zl n) d1,(n).natAbs),(.slice A2 (zl p) c2,(p).natAbs),(.slice B2 (zl q) d2,(q).natAbs),(.slice AS (zl q0) cS,(q0).natAbs),(.slice BS (zl q1) dS,(q1).natAbs)] [] [] [(gt,53,#[.bool (ng m),.slice A1 (zl m) c1,.bool (ng n),.slice B1 (zl n) d1]),(gu,53,#[.bool (ng p),.slice A2 (zl p) c2,.bool (ng q),.slice B2 (zl q) d2]),(gs,53,#[.bool (ng q0),.slice AS (zl q0) cS,.bool (ng q1),.slice BS (zl q1) dS])]∧Hid (RaJ v k g Y Z m n p q)) (fun i _ => v + 4 - (intOf i).toNat)
    case atStart => exact ⟨v,0,a1,b1,o,o,A2,B2,A3,B3,c2,d2,c3,d3,by go_num,L.subx (by simp) (by simp),HR0⟩
    case round =>
     clear L HR0
     obtain ⟨g,k,m,n,p,q,A1,B1,A2,B2,c1,d1,c2,d2,rfl,L,HR⟩:=hrel
     obtain ⟨e1,e2,e3,e4⟩:=HR.out.sizes
     have hv9:=HV.out
     have sa:=e1.zl
     have sb:=e2.zl
     have sp:=e3.zl
     have sq:=e4.zl
     have hnf:=HR.out.nf
     have tn0:=fun x W h => s13tiny_any m n x W h (by omega) (by omega)
     have hl1:=L.b0.lt
     have hl2:=L.tl.b0.lt
     have hl3:=L.tl.tl.b0.lt
     clear e1 e2 e3 e4
     cases ht:tnB m n
     ·rw [ht] at tn0
      have TN:=Hd9 tn0
      obtain ⟨g,rfl,hab,hmore⟩:=HR.out.more ht
      have hw:=hmore q0 q1 HS.out.2.2
      have r2:=fun h => HR.out.even HS.out.1 HS.out.2.1 hw h
      have r3:=fun h => HR.out.odd HS.out.1 HS.out.2.1 hw h
      have hq0:(0:Int) < 2 * (k:Int) + 1:=by omega
      have y1:=zl_floor m hq0
      have y2:=zl_cdv n hq0
      have y3:=zl_neg (m / (2 * (k:Int) + 1))
      have y4:=zl_neg (cdv n (2 * (k:Int) + 1))
      have zz:=HZ.out
      have o1:=fun x W h => s13over_any m n (2 * (k:Int) + 1) x W h (by omega) (by omega) hab (by omega) (by omega)
      have o2:∀ x y W,IsS W x m n → IsS W y q0 q1 → Calls Tryz.prog 127 #[x,y,.int .i64 (v:Int)] W (RetSp W (msL v m n q0 q1) (msH v m n q0 q1)):=fun x y W h j => s13mul_any m n q0 q1 v x y W h j (by omega) (by omega) (by omega) (by omega) (by omega)
      have o4:=fun x W h => s13neg_any (m / (2 * (k:Int) + 1)) (cdv n (2 * (k:Int) + 1)) x W h (by omega) (by omega)
      have o5:=fun x y W h j => s13add_any p q (m / (2 * (k:Int) + 1)) (cdv n (2 * (k:Int) + 1)) x y W h j (by omega) (by omega) (by omega) (by omega)
      have o6:=fun x y W h j => s13add_any p q (-(cdv n (2 * (k:Int) + 1))) (-(m / (2 * (k:Int) + 1))) x y W h j (by omega) (by omega) (by omega) (by omega)
      have hkv:k≤v:=by omega
      obtain ⟨u,hu⟩:∃ u:Int,2 * (k:Int) + 1 = u:=⟨_,rfl⟩
      have w1:IntKind.i64.wrap (2 * (k:Int)) = 2 * (k:Int):=by rw [IntKind.wrap_i64];omega
      have w2:IntKind.i64.wrap (2 * (k:Int) + 1) = u:=by rw [IntKind.wrap_i64];omega
      have w3:IntKind.i64.wrap ((k:Int) + 1) = (k:Int) + 1:=by rw [IntKind.wrap_i64];omega
      rw [hu] at o1 o4 o5 o6 r2 r3
      obtain ⟨p5,hp5⟩:=nm9 (m / u)
      rw [hp5] at o1 o4 o5 o6 r2 r3
      obtain ⟨r5,hr5⟩:=nm9 (cdv n u)
      rw [hr5] at o1 o4 o5 o6 r2 r3
      obtain ⟨m4,hm4⟩:=nm9 (msL v m n q0 q1)
      rw [hm4] at o2 r2 r3
      obtain ⟨n4,hn4⟩:=nm9 (msH v m n q0 q1)
      rw [hn4] at o2 r2 r3
      have O1:=Hd9 o1
      have O2:=Hd9 o2
      clear o1 o2 tn0 hu hp5 hr5 hm4 hn4 y1 y2 y3 y4 zz hq0 sa sb sp sq hab ht hnf hv9 HR hw hmore
      by_cases hk2:k % 2 = 1
      ·have r4:=r3 hk2
       have m1:((k:Int).tmod 2 == 1) = true:=by rw [beq_iff_eq,Int.tmod_eq_emod_of_nonneg (by omega)];omega
       have m2:((k:Int) % 2 == 1) = true:=by rw [beq_iff_eq];omega
       have O4:=Hd9 o4
       obtain ⟨p2,hp2⟩:=nm9 (-r5)
       obtain ⟨r6,hr6⟩:=nm9 (-p5)
       rw [hp2,hr6] at O4 o6 r4
       obtain ⟨s4,hs4⟩:=nm9 (p + p2)
       obtain ⟨u4,hu4⟩:=nm9 (q + r6)
       rw [hs4,hu4] at o6 r4
       have O5:=Hd9 o6
       have HR2:=Hd9 r4
       clear o4 o5 o6 r2 r3 r4 hk2 hp2 hr6 hs4 hu4
       obtain ⟨cel00,cel01,cel02,cel03⟩:=L.b0.a4
       go_wp2_with fail
       refine (TN.out _ _ (isS_n (a:=m) (b:=n) (s:=.slice A1 (zl m) c1) (t:=.slice B1 (zl n) d1) (L.getN (by simp)) (L.getN (by simp)))).mono ?_
       rintro e w51 ⟨rfl,be⟩
       clear cel00 cel01 cel02 cel03
       replace L:=L.step be
       clear be
       obtain ⟨cel00,cel01,cel02,cel03⟩:=L.b0.a4
       go_wp2_with fail
       refine (O1.out _ _ (isS_n (a:=m) (b:=n) (s:=.slice A1 (zl m) c1) (t:=.slice B1 (zl n) d1) (L.getN (by simp)) (L.getN (by simp)))).mono ?_
       rintro e w52 ⟨vv,rfl,iq,be⟩
       clear cel00 cel01 cel02 cel03
       obtain ⟨A3,c3,B3,d3,rfl,ia,ib⟩:=iq.form
       replace L:=((L.step be).n ib).n ia
       clear be iq ia ib
       have hl4:=L.b0.lt
       have hl5:=L.tl.b0.lt
       have hl6:=L.tl.tl.b0.lt
       replace L:=L.varS w52.heap.size rfl (ng p5) A3 (zl p5) c3 (ng r5) B3 (zl r5) d3
       obtain ⟨cel00,cel01,cel02,cel03⟩:=L.b0.a4
       go_wp2_with fail
       clear cel00 cel01 cel02 cel03
       obtain ⟨gx,hgx⟩:=nm9 (w52.heap.size)
       rw [hgx] at L hl4 hl5 hl6 ⊢
       clear hgx
       have hVx:V2.heap.size≤gx:=by omega
       have hVs:V2.heap.size≤gu:=by omega
       refine (O4.out _ _ (isS_n (a:=p5) (b:=r5) (s:=.slice A3 (zl p5) c3) (t:=.slice B3 (zl r5) d3) (L.getN (by simp)) (L.getN (by simp)))).mono ?_
       rintro e w53 ⟨vv,rfl,iq,be⟩
       obtain ⟨A4,c4,B4,d4,rfl,ia,ib⟩:=iq.form
       replace L:=((L.step be).n ib).n ia
       clear be iq ia ib
       obtain ⟨cel00,cel01,cel02,cel03⟩:=L.b0.a4
       obtain ⟨f00,f01,f02,f03⟩:=L.b0.f4
       have P:=L.putS (by omega) (by first | (simp;done) | (simp;omega)) (ng p2) A4 (zl p2) c4 (ng r6) B4 (zl r6) d4
       obtain ⟨p00,p01,p02,p03⟩:=P.b0.a4
       obtain ⟨p20,p21,p22,p23⟩:=P.tl.tl.b0.a4
       unfold put4 at p00 p01 p02 p03 p20 p21 p22 p23 P
       go_wp2_with fail
       replace L:=P
       clear P p00 p01 p02 p03 p20 p21 p22 p23
       clear cel00 f00 cel01 f01 cel02 f02 cel03 f03
       refine (O5.out _ _ _ (isS_n (a:=p) (b:=q) (s:=.slice A2 (zl p) c2) (t:=.slice B2 (zl q) d2) (L.getN (by simp)) (L.getN (by simp))) (isS_n (a:=p2) (b:=r6) (s:=.slice A4 (zl p2) c4) (t:=.slice B4 (zl r6) d4) (L.getN (by simp)) (L.getN (by simp)))).mono ?_
       rintro e w54 ⟨vv,rfl,iq,be⟩
       obtain ⟨A6,c6,B6,d6,rfl,ia,ib⟩:=iq.form
       replace L:=((L.step be).n ib).n ia
       clear be iq ia ib
       obtain ⟨cel20,cel21,cel22,cel23⟩:=L.tl.tl.b0.a4
       obtain ⟨f20,f21,f22,f23⟩:=L.tl.tl.b0.f4
       have P:=L.pull2.putS (by omega) (by first | (simp;done) | (simp;omega)) (ng s4) A6 (zl s4) c6 (ng u4) B6 (zl u4) d6
       obtain ⟨p20,p21,p22,p23⟩:=P.tl.tl.b0.a4
       obtain ⟨p30,p31,p32,p33⟩:=P.tl.tl.tl.b0.a4
       unfold put4 at p20 p21 p22 p23 p30 p31 p32 p33 P
       go_wp2_with fail
       replace L:=P
       clear P p20 p21 p22 p23 p30 p31 p32 p33
       clear cel20 f20 cel21 f21 cel22 f22 cel23 f23
       refine (O2.out _ _ _ (isS_n (a:=m) (b:=n) (s:=.slice A1 (zl m) c1) (t:=.slice B1 (zl n) d1) (L.getN (by simp)) (L.getN (by simp))) (isS_n (a:=q0) (b:=q1) (s:=.slice AS (zl q0) cS) (t:=.slice BS (zl q1) dS) (L.getN (by simp)) (L.getN (by simp)))).mono ?_
       rintro e w55 ⟨vv,rfl,iq,be⟩
       obtain ⟨A8,c8,B8,d8,rfl,ia,ib⟩:=iq.form
       replace L:=((L.step be).n ib).n ia
       clear be iq ia ib
       obtain ⟨cel20,cel21,cel22,cel23⟩:=L.tl.tl.b0.a4
       obtain ⟨f20,f21,f22,f23⟩:=L.tl.tl.b0.f4
       replace L:=L.pull2.putS (by omega) (by first | (simp;done) | (simp;omega)) (ng m4) A8 (zl m4) c8 (ng n4) B8 (zl n4) d8
       unfold put4 at L
       go_wp2_with fail
       go_roundw
       case rel => exact ⟨g,k + 1,m4,n4,s4,u4,A8,B8,A6,B6,c8,d8,c6,d6,by go_num,L.subx (by simp) (by simp),HR2⟩
       case measure => simp [intOf];omega
      ·have r4:=r2 (by omega)
       have m1:((k:Int).tmod 2 == 1) = false:=by rw [beq_eq_false_iff_ne,Int.tmod_eq_emod_of_nonneg (by omega)];omega
       have m2:((k:Int) % 2 == 1) = false:=by rw [beq_eq_false_iff_ne];omega
       obtain ⟨s4,hs4⟩:=nm9 (p + p5)
       obtain ⟨u4,hu4⟩:=nm9 (q + r5)
       rw [hs4,hu4] at o5 r4
       have O5:=Hd9 o5
       have HR2:=Hd9 r4
       clear o4 o5 o6 r2 r3 r4 hk2 hs4 hu4
       obtain ⟨cel00,cel01,cel02,cel03⟩:=L.b0.a4
       go_wp2_with fail
       refine (TN.out _ _ (isS_n (a:=m) (b:=n) (s:=.slice A1 (zl m) c1) (t:=.slice B1 (zl n) d1) (L.getN (by simp)) (L.getN (by simp)))).mono ?_
       rintro e w51 ⟨rfl,be⟩
       clear cel00 cel01 cel02 cel03
       replace L:=L.step be
       clear be
       obtain ⟨cel00,cel01,cel02,cel03⟩:=L.b0.a4
       go_wp2_with fail
       refine (O1.out _ _ (isS_n (a:=m) (b:=n) (s:=.slice A1 (zl m) c1) (t:=.slice B1 (zl n) d1) (L.getN (by simp)) (L.getN (by simp)))).mono ?_
       rintro e w52 ⟨vv,rfl,iq,be⟩
       clear cel00 cel01 cel02 cel03
       obtain ⟨A3,c3,B3,d3,rfl,ia,ib⟩:=iq.form
       replace L:=((L.step be).n ib).n ia
       clear be iq ia ib
       have hl4:=L.b0.lt
       have hl5:=L.tl.b0.lt
       have hl6:=L.tl.tl.b0.lt
       replace L:=L.varS w52.heap.size rfl (ng p5) A3 (zl p5) c3 (ng r5) B3 (zl r5) d3
       obtain ⟨cel00,cel01,cel02,cel03⟩:=L.b0.a4
       obtain ⟨cel20,cel21,cel22,cel23⟩:=L.tl.tl.b0.a4
       go_wp2_with fail
       clear cel00 cel01 cel02 cel03 cel20 cel21 cel22 cel23
       obtain ⟨gx,hgx⟩:=nm9 (w52.heap.size)
       rw [hgx] at L hl4 hl5 hl6 ⊢
       clear hgx
       have hVx:V2.heap.size≤gx:=by omega
       have hVs:V2.heap.size≤gu:=by omega
       refine (O5.out _ _ _ (isS_n (a:=p) (b:=q) (s:=.slice A2 (zl p) c2) (t:=.slice B2 (zl q) d2) (L.getN (by simp)) (L.getN (by simp))) (isS_n (a:=p5) (b:=r5) (s:=.slice A3 (zl p5) c3) (t:=.slice B3 (zl r5) d3) (L.getN (by simp)) (L.getN (by simp)))).mono ?_
       rintro e w53 ⟨vv,rfl,iq,be⟩
       obtain ⟨A6,c6,B6,d6,rfl,ia,ib⟩:=iq.form
       replace L:=((L.step be).n ib).n ia
       clear be iq ia ib
       obtain ⟨cel20,cel21,cel22,cel23⟩:=L.tl.tl.b0.a4
       obtain ⟨f20,f21,f22,f23⟩:=L.tl.tl.b0.f4
       have P:=L.pull2.putS (by omega) (by first | (simp;done) | (simp;omega)) (ng s4) A6 (zl s4) c6 (ng u4) B6 (zl u4) d6
       obtain ⟨p20,p21,p22,p23⟩:=P.tl.tl.b0.a4
       obtain ⟨p30,p31,p32,p33⟩:=P.tl.tl.tl.b0.a4
       unfold put4 at p20 p21 p22 p23 p30 p31 p32 p33 P
       go_wp2_with fail
       replace L:=P
       clear P p20 p21 p22 p23 p30 p31 p32 p33
       clear cel20 f20 cel21 f21 cel22 f22 cel23 f23
       refine (O2.out _ _ _ (isS_n (a:=m) (b:=n) (s:=.slice A1 (zl m) c1) (t:=.slice B1 (zl n) d1) (L.getN (by simp)) (L.getN (by simp))) (isS_n (a:=q0) (b:=q1) (s:=.slice AS (zl q0) cS) (t:=.slice BS (zl q1) dS) (L.getN (by simp)) (L.getN (by simp)))).mono ?_
       rintro e w54 ⟨vv,rfl,iq,be⟩
       obtain ⟨A8,c8,B8,d8,rfl,ia,ib⟩:=iq.form
       replace L:=((L.step be).n ib).n ia
       clear be iq ia ib
       obtain ⟨cel20,cel21,cel22,cel23⟩:=L.tl.tl.b0.a4
       obtain ⟨f20,f21,f22,f23⟩:=L.tl.tl.b0.f4
       replace L:=L.pull2.putS (by omega) (by first | (simp;done) | (simp;omega)) (ng m4) A8 (zl m4) c8 (ng n4) B8 (zl n4) d8
       unfold put4 at L
       go_wp2_with fail
       go_roundw
       case rel => exact ⟨g,k + 1,m4,n4,s4,u4,A8,B8,A6,B6,c8,d8,c6,d6,by go_num,L.subx (by simp) (by simp),HR2⟩
       case measure => simp [intOf];omega
     ·rw [ht] at tn0
      have TN:=Hd9 tn0
      have hfin:=HEND.out _ _ _ _ _ HR.out.t1 HR.out.t2 ht
      obtain ⟨z1,z2⟩:=ra_end HR.out
      have o1:=fun x W h => s13wide_any p q 3 x W h (by omega) (by omega) (by omega) (by omega)
      have m1:=zl_sub p 3
      have m2:=zl_add q 3
      have m3:zl 3≤1:=len_le1 (by omega)
      have o2:=fun x W h => s13times_any (p - 3) (q + 3) 16 x W h (by omega) (by omega) (by omega) (by omega)
      obtain ⟨s4,hs4⟩:=nm9 (p - 3)
      obtain ⟨u4,hu4⟩:=nm9 (q + 3)
      rw [hs4] at o1 o2 hfin z1
      rw [hu4] at o1 o2 hfin z2
      obtain ⟨S4,hS4⟩:=nm9 (s4 * 16)
      obtain ⟨U4,hU4⟩:=nm9 (u4 * 16)
      rw [hS4] at o2 hfin z1
      rw [hU4] at o2 hfin z2
      have O1:=Hd9 o1
      have O2:=Hd9 o2
      have HE:=Hd9 (And.intro hfin (And.intro z1 z2))
      clear o1 o2 tn0 HR sa sb sp sq ht hnf hv9 m1 m2 m3 hs4 hu4 hS4 hU4 hfin z1 z2 HEND
      obtain ⟨cel00,cel01,cel02,cel03⟩:=L.b0.a4
      go_wp2_with fail
      refine (TN.out _ _ (isS_n (a:=m) (b:=n) (s:=.slice A1 (zl m) c1) (t:=.slice B1 (zl n) d1) (L.getN (by simp)) (L.getN (by simp)))).mono ?_
      rintro e w91 ⟨rfl,be⟩
      clear cel00 cel01 cel02 cel03
      replace L:=L.step be
      clear be
      have hvs:=L.tl.b0
      have ip:=L.getN (v:=.slice A2 (zl p) c2) (x:=p.natAbs) (by simp)
      have iq:=L.getN (v:=.slice B2 (zl q) d2) (x:=q.natAbs) (by simp)
      have L9:=(((LL.out.step L.below).n iq).n ip).b hvs
      have L:=L9.subx (ns':=[(.slice A2 (zl p) c2,p.natAbs),(.slice B2 (zl q) d2,q.natAbs)]) (bs':=[(gu,53,#[.bool (ng p),.slice A2 (zl p) c2,.bool (ng q),.slice B2 (zl q) d2]),(w.heap.size + 1,53,#[.bool false,.slice none 0 0,.bool false,.slice none 0 0])]) (by simp) (by simp)
      have n9:w.heap.size + 1 ≠ gu:=by omega
      clear hvs ip iq L9 LL TN
      obtain ⟨cel00,cel01,cel02,cel03⟩:=L.b0.a4
      go_wp2_with fail
      refine (O1.out _ _ (isS_n (a:=p) (b:=q) (s:=.slice A2 (zl p) c2) (t:=.slice B2 (zl q) d2) (L.getN (by simp)) (L.getN (by simp)))).mono ?_
      rintro e w92 ⟨vv,rfl,iq,be⟩
      clear cel00 cel01 cel02 cel03
      obtain ⟨A9,c9,B9,d9,rfl,ia,ib⟩:=iq.form
      replace L:=((L.step be).n ib).n ia
      clear be iq ia ib
      go_wp2_with fail
      refine (O2.out _ _ (isS_n (a:=s4) (b:=u4) (s:=.slice A9 (zl s4) c9) (t:=.slice B9 (zl u4) d9) (L.getN (by simp)) (L.getN (by simp)))).mono ?_
      rintro e w93 ⟨vv,rfl,iq,be⟩
      obtain ⟨A10,c10,B10,d10,rfl,ia,ib⟩:=iq.form
      replace L:=((L.step be).n ib).n ia
      clear be iq ia ib
      replace L:=L.swap
      obtain ⟨cel00,cel01,cel02,cel03⟩:=L.b0.a4
      obtain ⟨f00,f01,f02,f03⟩:=L.b0.f4
      go_wp2_with fail
      have LP:=L.putS (by omega) (by first | (simp;done) | (simp;omega)) (ng S4) A10 (zl S4) c10 (ng U4) B10 (zl U4) d10
      obtain ⟨k0,k1,k2,k3⟩:=LP.b0.a4
      unfold put4 at k0 k1 k2 k3
      exact bodyPost_ret (v:=.agg #[.bool (ng S4),.slice A10 (zl S4) c10,.bool (ng U4),.slice B10 (zl U4) d10]) (by simp [results,Tryz.results70,go_sem,k0,k1,k2,k3]) rfl ⟨_,_,⟨_,rfl,isS_n (LP.getN (by simp)) (LP.getN (by simp)),LP.below⟩,HE.out⟩

theorem at_size13 {n:Int} (hn:2≤n) {v:Nat} (hv:v≤10000):zl (atL n v)≤701∧zl (atH n v)≤701:=by
 obtain ⟨h1,h2⟩:=atR_abs hn v 0 (2 ^ v / n) (cdv (2 ^ v) n) 0 0 (at_first hn v)
 have x1:=h1.zl
 have x2:=h2.zl
 have x3:=zl_sub (atR n v 0 (2 ^ v / n) (cdv (2 ^ v) n) 0 0).1 2
 have x4:=zl_add (atR n v 0 (2 ^ v / n) (cdv (2 ^ v) n) 0 0).2 2
 have x5:zl 2≤1:=len_le1 (by omega)
 unfold atL atH atS
 omega
theorem s13pi_any (v:Nat) (w:World) (hv:v≤10000) :
  Calls Tryz.prog 28 #[.int .i64 (v:Int)] w (RetSp w (piL v) (piH v)):=by
 obtain ⟨a1,a2⟩:=at_size13 (n:=5) (by omega) hv
 obtain ⟨b1,b2⟩:=at_size13 (n:=239) (by omega) hv
 have x5:zl 16≤1:=len_le1 (by omega)
 have x6:zl 4≤1:=len_le1 (by omega)
 have y1:=zl_mul (atL 5 v) 16
 have y2:=zl_mul (atH 5 v) 16
 have y3:=zl_mul (atL 239 v) 4
 have y4:=zl_mul (atH 239 v) 4
 have g1:=fun W => s13atan_any 5 v W (by omega) (by omega) hv
 have g2:=fun x W h => s13times_any (atL 5 v) (atH 5 v) 16 x W h (by omega) (by omega) (by omega) (by omega)
 have g3:=fun W => s13atan_any 239 v W (by omega) (by omega) hv
 have g4:=fun x W h => s13times_any (atL 239 v) (atH 239 v) 4 x W h (by omega) (by omega) (by omega) (by omega)
 have g5:=fun x y W h k => s13sub_any (atL 5 v * 16) (atH 5 v * 16) (atL 239 v * 4) (atH 239 v * 4) x y W h k (by omega) (by omega) (by omega) (by omega)
 rw [show atL 5 v * 16 + -(atH 239 v * 4) = piL v from rfl,show atH 5 v * 16 + -(atL 239 v * 4) = piH v from rfl] at g5
 generalize piL v = X at *
 generalize piH v = Y at *
 generalize atL 5 v = a at *
 generalize atH 5 v = b at *
 generalize atL 239 v = p at *
 generalize atH 239 v = q at *
 obtain ⟨a3,ha3⟩:=nm9 (a * 16)
 obtain ⟨b3,hb3⟩:=nm9 (b * 16)
 obtain ⟨p3,hp3⟩:=nm9 (p * 4)
 obtain ⟨q3,hq3⟩:=nm9 (q * 4)
 rw [ha3,hb3] at g2 g5
 rw [hp3,hq3] at g4 g5
 have G1:=Hd9 g1
 have G2:=Hd9 g2
 have G3:=Hd9 g3
 have G4:=Hd9 g4
 have G5:=Hd9 g5
 clear g1 g2 g3 g4 g5 a1 a2 b1 b2 x5 x6 y1 y2 y3 y4 ha3 hb3 hp3 hq3 hv
 go_enter Tryz.func28,Tryz.ntmps28
 have L:=((Lq.mk0 w).varS (w.heap.size) (by simp) false none 0 0 false none 0 0)
 (try go_wp2_with fail)
 refine (G1.out _).mono ?_
 rintro e w1 ⟨vv,rfl,iq,be⟩
 obtain ⟨A1,c1,B1,d1,rfl,ia,ib⟩:=iq.form
 replace L:=((L.step be).n ib).n ia
 clear be iq ia ib
 go_wp2_with fail
 refine (G2.out _ _ (isS_n (a:=a) (b:=b) (s:=.slice A1 (zl a) c1) (t:=.slice B1 (zl b) d1) (L.getN (by simp)) (L.getN (by simp)))).mono ?_
 rintro e w2 ⟨vv,rfl,iq,be⟩
 obtain ⟨A2,c2,B2,d2,rfl,ia,ib⟩:=iq.form
 replace L:=((L.step be).n ib).n ia
 clear be iq ia ib
 go_wp2_with fail
 refine (G3.out _).mono ?_
 rintro e w3 ⟨vv,rfl,iq,be⟩
 obtain ⟨A3,c3,B3,d3,rfl,ia,ib⟩:=iq.form
 replace L:=((L.step be).n ib).n ia
 clear be iq ia ib
 go_wp2_with fail
 refine (G4.out _ _ (isS_n (a:=p) (b:=q) (s:=.slice A3 (zl p) c3) (t:=.slice B3 (zl q) d3) (L.getN (by simp)) (L.getN (by simp)))).mono ?_
 rintro e w4 ⟨vv,rfl,iq,be⟩
 obtain ⟨A4,c4,B4,d4,rfl,ia,ib⟩:=iq.form
 replace L:=((L.step be).n ib).n ia
 clear be iq ia ib
 go_wp2_with fail
 refine (G5.out _ _ _ (isS_n (a:=a3) (b:=b3) (s:=.slice A2 (zl a3) c2) (t:=.slice B2 (zl b3) d2) (L.getN (by simp)) (L.getN (by simp))) (isS_n (a:=p3) (b:=q3) (s:=.slice A4 (zl p3) c4) (t:=.slice B4 (zl q3) d4) (L.getN (by simp)) (L.getN (by simp)))).mono ?_
 rintro e w5 ⟨vv,rfl,iq,be⟩
 obtain ⟨A9,c9,B9,d9,rfl,ia,ib⟩:=iq.form
 replace L:=((L.step be).n ib).n ia
 clear be iq ia ib
 obtain ⟨c00,c01,c02,c03⟩:=L.b0.a4
 obtain ⟨f00,f01,f02,f03⟩:=L.b0.f4
 go_wp2_with fail
 have LP:=L.putS (by omega) (by first | (simp;done) | (simp;omega)) (ng X) A9 (zl X) c9 (ng Y) B9 (zl Y) d9
 obtain ⟨k0,k1,k2,k3⟩:=LP.b0.a4
 unfold put4 at k0 k1 k2 k3
 exact bodyPost_ret (v:=.agg #[.bool (ng X),.slice A9 (zl X) c9,.bool (ng Y),.slice B9 (zl Y) d9]) (by simp [results,Tryz.results28,go_sem,k0,k1,k2,k3]) rfl ⟨_,rfl,isS_n (LP.getN (by simp)) (LP.getN (by simp)),LP.below⟩

theorem s13out_any (a b:Int) (v k j:Nat) (vx:Value) (w:World) (hx:IsS w vx a b) (la:zl a≤10000) (lb:zl b≤10000) (hk:k≤10000) (hj:v = k + j) (hj2:j≤10000) :
  Calls Tryz.prog 29 #[vx,.int .i64 (v:Int),.int .i64 (k:Int)] w (RetI6 w (mkM (a / 2 ^ j) (-(k:Int))) (mkE (a / 2 ^ j) (-(k:Int))) (mkM (cdv b (2 ^ j)) (-(k:Int))) (mkE (cdv b (2 ^ j)) (-(k:Int)))):=by
 obtain ⟨A,c,B,d,rfl,hn1,hn2⟩:=hx.form
 have L0:=((Lq.mk0 w).n hn2).n hn1
 have w1:IntKind.i64.wrap ((v:Int) - (k:Int)) = (j:Int):=by rw [IntKind.wrap_i64];omega
 have w2:IntKind.i64.wrap (-(k:Int)) = -(k:Int):=by rw [IntKind.wrap_i64];omega
 have p2:=pow2_pos j
 have z1:=zl_floor a p2
 have z2:=zl_floor (-b) p2
 have z3:=zl_neg b
 unfold cdv
 have g1:=fun x W h => rzshr_any a x W h (by omega) j (by omega)
 have g2:=fun x W h => rmake8_any (a / 2 ^ j) (-(k:Int)) x W h (by omega)
 have g3:=fun x W h => rzneg_any b x W h (by omega)
 have g4:=fun x W h => rzshr_any (-b) x W h (by omega) j (by omega)
 have g5:=fun x W h => rzneg_any (-b / 2 ^ j) x W h (by omega)
 have z4:=zl_neg (-b / 2 ^ j)
 have g6:=fun x W h => rmake8_any (-(-b / 2 ^ j)) (-(k:Int)) x W h (by omega)
 obtain ⟨p,hp⟩:=nm9 (a / 2 ^ j)
 rw [hp] at g1 g2 ⊢
 obtain ⟨q,hq⟩:=nm9 (-b)
 rw [hq] at g3 g4 g5 g6 ⊢
 obtain ⟨r,hr⟩:=nm9 (q / 2 ^ j)
 rw [hr] at g4 g5 g6 ⊢
 obtain ⟨s,hs⟩:=nm9 (-r)
 rw [hs] at g5 g6 ⊢
 generalize mkR p (-(k:Int)) = R at *
 generalize mkR s (-(k:Int)) = R2 at *
 obtain ⟨M,hM⟩:=nm9 (mkM p (-(k:Int)))
 rw [hM] at g2 ⊢
 obtain ⟨E,hE⟩:=nm9 (mkE p (-(k:Int)))
 rw [hE] at g2 ⊢
 obtain ⟨M2,hM2⟩:=nm9 (mkM s (-(k:Int)))
 rw [hM2] at g6 ⊢
 obtain ⟨E2,hE2⟩:=nm9 (mkE s (-(k:Int)))
 rw [hE2] at g6 ⊢
 have G1:=Hd9 g1
 have G2:=Hd9 g2
 have G3:=Hd9 g3
 have G4:=Hd9 g4
 have G5:=Hd9 g5
 have G6:=Hd9 g6
 clear g1 g2 g3 g4 g5 g6 z1 z2 z3 z4 p2 hp hq hr hs hM hE hM2 hE2 hn1 hn2 hj la lb
 go_enter Tryz.func29,Tryz.ntmps29
 go_wp2_with fail
 have L:=((L0.varS (w.heap.size) (by simp) (ng a) A (zl a) c (ng b) B (zl b) d).varI (w.heap.size + 1) (by simp) false none 0 0 0 false none 0 0 0)
 obtain ⟨c10,c11,c12,c13⟩:=L.tl.b0.a4
 (try go_wp2_with fail)
 refine (G1.out _ _ (isZ_s (z:=a) (s:=.slice A (zl a) c) (L.getN (by simp)))).mono ?_
 rintro e w1 ⟨vv,rfl,iz,be⟩
 clear c10 c11 c12 c13
 obtain ⟨A1,c1,rfl,in9⟩:=iz.form
 replace L:=(L.step be).n in9
 clear be iz in9
 go_wp2_with fail
 refine (G2.out _ _ (isZ_s (z:=p) (s:=.slice A1 (zl p) c1) (L.getN (by simp)))).mono ?_
 rintro e w2 ⟨vv,rfl,id,be⟩
 obtain ⟨A2,c2,rfl,_,in9⟩:=id.form
 replace L:=(L.step be).n in9
 clear be id in9
 have hl0:=L.b0.lt
 replace L:=L.varD w2.heap.size rfl (ng M) A2 (zl M) c2 E
 obtain ⟨c00,c01,c02⟩:=L.b0.a3
 obtain ⟨c20,c21,c22,c23⟩:=L.tl.tl.b0.a4
 go_wp2_with fail
 clear c00 c01 c02 c20 c21 c22 c23
 obtain ⟨g1,hg1⟩:=nm9 (w2.heap.size)
 rw [hg1] at L hl0 ⊢
 clear hg1
 refine (G3.out _ _ (isZ_s (z:=b) (s:=.slice B (zl b) d) (L.getN (by simp)))).mono ?_
 rintro e w3 ⟨vv,rfl,iz,be⟩
 obtain ⟨A3,c3,rfl,in9⟩:=iz.form
 replace L:=(L.step be).n in9
 clear be iz in9
 go_wp2_with fail
 refine (G4.out _ _ (isZ_s (z:=q) (s:=.slice A3 (zl q) c3) (L.getN (by simp)))).mono ?_
 rintro e w4 ⟨vv,rfl,iz,be⟩
 obtain ⟨A4,c4,rfl,in9⟩:=iz.form
 replace L:=(L.step be).n in9
 clear be iz in9
 go_wp2_with fail
 refine (G5.out _ _ (isZ_s (z:=r) (s:=.slice A4 (zl r) c4) (L.getN (by simp)))).mono ?_
 rintro e w5 ⟨vv,rfl,iz,be⟩
 obtain ⟨A5,c5,rfl,in9⟩:=iz.form
 replace L:=(L.step be).n in9
 clear be iz in9
 go_wp2_with fail
 refine (G6.out _ _ (isZ_s (z:=s) (s:=.slice A5 (zl s) c5) (L.getN (by simp)))).mono ?_
 rintro e w6 ⟨vv,rfl,id,be⟩
 obtain ⟨A6,c6,rfl,_,in9⟩:=id.form
 replace L:=((L.step be).n in9).swap
 clear be id in9
 have hlr:=L.b0.lt
 have hls:=L.tl.b0.lt
 obtain ⟨c00,c01,c02,c03,c04,c05⟩:=L.b0.a6
 obtain ⟨f00,f01,f02,f03,f04,f05⟩:=L.b0.f6
 have LN:=L.varD w6.heap.size rfl (ng M2) A6 (zl M2) c6 E2
 have n0:=LN.b0.c30
 have m0:=LN.tl.tl.b0.c30
 have n1:=LN.b0.c31
 have m1:=LN.tl.tl.b0.c31
 have n2:=LN.b0.c32
 have m2:=LN.tl.tl.b0.c32
 go_wp2_with fail
 clear c00 f00 c01 f01 c02 f02 c03 f03 c04 f04 c05 f05
 have LP0:=L.putI (by omega) (by first | (simp;done) | (simp;omega)) (ng M) A2 (zl M) c2 E (ng M2) A6 (zl M2) c6 E2
 have LP:=LP0.varD _ rfl (ng M2) A6 (zl M2) c6 E2
 obtain ⟨k0,k1,k2,k3,k4,k5⟩:=LP.tl.b0.a6
 unfold put6 at k0 k1 k2 k3 k4 k5
 exact bodyPost_ret (v:=.agg #[.bool (ng M),.slice A2 (zl M) c2,.int .i64 E,.bool (ng M2),.slice A6 (zl M2) c6,.int .i64 E2]) (by simp [results,Tryz.results29,go_sem,k0,k1,k2,k3,k4,k5]) rfl ⟨_,rfl,isI_n (LP.getN (by simp)) (LP.getN (by simp)),LP.below⟩
structure ExS (v f t:Nat) (y:Rat) (a b p q:Int):Prop where
 tf:t + f = v
 tm:SpC a b v (tm t y)
 sm:SpC p q v (esm (t + 1) y)
 aa:AbP a f
 bb:AbP b f
 pp:p.natAbs + 2 ^ f≤2 ^ (v + 1)
 qq:q.natAbs + 2 ^ f≤2 ^ (v + 1)
theorem ExS.first (v:Nat) (y:Rat):ExS v v 0 y (2 ^ v) (2 ^ v) (2 ^ v) (2 ^ v):=by
 have h:=SpC.of 1 v
 rw [Int.one_mul,show ((1:Int):Rat) = 1 from rfl] at h
 have e:((2:Int) ^ v).natAbs = 2 ^ v:=by rw [Int.natAbs_pow];rfl
 have h2:((2:Int) ^ v).natAbs + 2 ^ v≤2 ^ (v + 1):=by rw [e,Nat.pow_succ];omega
 refine ⟨by omega,h,?_,Nat.le_of_eq e,Nat.le_of_eq e,h2,h2⟩
 rwa [show esm (0 + 1) y = 1 from by show (0:Rat) + 1 = 1;grind]
def sqbits (v i:Nat):Nat:=v + (3 * 2 ^ i - 1)
structure ExD (v i:Nat) (y:Rat) (a b:Int):Prop where
 rs:RSp a b v ((((2:Nat) ^ i:Nat):Rat) * y)
 aa:AbP a (sqbits v i)
 bb:AbP b (sqbits v i)
theorem ExD.first {v:Nat} {y:Rat} {a b:Int} (h:RSp a b v y) (ha:AbP a (sqbits v 0)) (hb:AbP b (sqbits v 0)):ExD v 0 y a b:=
 ⟨by rwa [show (((2:Nat) ^ 0:Nat):Rat) * y = y from by rw [Nat.pow_zero];exact Rat.one_mul y],ha,hb⟩

end Go.Proofs.YtiddbhhhmeopeaaGreatDoor
