/- Joined: CpC, ExC, CpE (what the law leans on). -/
import Derived.Test.YtnnfldkllhdhjaaGreatDoorJO1
import Derived.Test.YtnnfldkllhdhjaaGreatDoorJO2
import Derived.Deep.Cut
import Derived.Deep.CutRange
import Derived.Deep.DrawnRows
import Derived.Deep.RegionHeld3
namespace Go.Proofs.YtnnfldkllhdhjaaGreatDoor
open Go.RowKit
set_option linter.unusedVariables false
set_option linter.unusedSimpArgs false
set_option maxRecDepth 100000
attribute [local go_sem ↓] Go.wp_at_zero Go.wp_at_succ

/-- A slice of parts: what its elements hold. -/
def RowP (w : World) (v : Value) (l : List (Int × Nat × Int)) : Prop := ∃ g c, v = .slice (some ⟨g, 0, none⟩) l.length c ∧ g < w.heap.size ∧ ∀ (j : Nat) (x : Int × Nat × Int), l[j]? = some x → w.cell? ⟨g, 3 * j, none⟩ = some (.int .i64 x.1) ∧ w.cell? ⟨g, 3 * j + 1, none⟩ = some (.func (.func x.2.1) #[] #[]) ∧ w.cell? ⟨g, 3 * j + 2, none⟩ = some (.int .i64 x.2.2)
/-- The sum from here on. -/
def ttl : List Int → Int → Int
  | [], s => s
  | c :: l, s => ttl l (s + c)
def SmI (cs : List Int) (u t : Nat) (s T : Int) : Prop := AbP s (u + t) ∧ ttl (cs.drop t) s = T
theorem SmI.step {cs : List Int} {u t : Nat} {s T c : Int} (h : SmI cs u t s T) (hc : cs[t]? = some c) (hb : AbP c u) : SmI cs u (t + 1) (s + c) T := by
  refine ⟨h.1.add (hb.up (by omega)), ?_⟩
  have h2 := h.2
  obtain ⟨hl, e⟩ := List.getElem?_eq_some_iff.1 hc
  rw [List.drop_eq_getElem_cons hl, e, ttl] at h2
  exact h2
theorem SmI.last {cs : List Int} {u : Nat} {s T : Int} (h : SmI cs u cs.length s T) : s = T := by
  have h2 := h.2
  rw [List.drop_length, ttl] at h2
  exact h2
theorem lo_out (T : Int) (k : Nat) {m e : Int} (h : dq m e = dq (T - 262144) (-((k + 32 : Nat) : Int))) : cutQ (dq m e) (k : Int) = loC T := by
  rw [h, cutD_down 32 (by omega)]
  rfl
theorem hi_out (T : Int) (k : Nat) {m e : Int} (h : dq m e = dq (T + 262144) (-((k + 32 : Nat) : Int))) : -(cutQ (-(dq m e)) (k : Int)) = hiC T := by
  rw [h, ← dq_neg, cutD_down 32 (by omega)]
  rfl
theorem loC_abs {T : Int} {u : Nat} (h : AbP T u) (hu : 18 ≤ u) : AbP (loC T) (u + 1) ∧ AbP (hiC T) (u + 1) := by
  have e0 : (262144 : Int) = ((2 ^ 18 : Nat) : Int) := by decide
  have h1 : AbP 262144 u := AbP.up (j := 18) (by unfold AbP; decide) hu
  have a1 := h.add h1.neg
  have a2 := h.add h1
  rw [← Int.sub_eq_add_neg] at a1
  unfold AbP at *
  unfold loC hiC cdv
  have x1 : ((T - 262144) / 4294967296).natAbs ≤ (T - 262144).natAbs := Int.natAbs_ediv_le_natAbs _ _
  have x2 : (-(T + 262144) / 4294967296).natAbs ≤ (-(T + 262144)).natAbs := Int.natAbs_ediv_le_natAbs _ _
  rw [Int.natAbs_neg] at x2 ⊢
  exact ⟨Nat.le_trans x1 a1, Nat.le_trans x2 a2⟩

set_option maxHeartbeats 16000000 in
theorem cencl_yes (k : Nat) (l : List (Int × Nat × Int)) (cs : List Int) (T : Int) (vl : Value) (w : World) (hk : k ≤ 900) (hl : RowP w vl l) (hlen : cs.length = l.length) (hn : l.length ≤ 100) (hT : Tab w) (hb : ∀ c ∈ cs, AbP c 1600) (hsum : ttl cs 0 = T) (hf : ∀ (j : Nat) x c W, l[j]? = some x → cs[j]? = some c → Below w.heap.size w W → Calls Tryz.prog 154 #[.agg #[.int .i64 x.1, .func (.func x.2.1) #[] #[], .int .i64 x.2.2], .int .i64 ((k + 32 : Nat) : Int)] W (RetD8 W (mkM c 0) (mkE c 0))) :
    Calls Tryz.prog 98 #[.int .i64 (k : Int), vl] w (RetIE w (mkM (loC T) (-(k : Int))) (mkE (loC T) (-(k : Int))) (mkM (hiC T) (-(k : Int))) (mkE (hiC T) (-(k : Int))) 0) := by
  obtain ⟨g, c, rfl, hg, hrow⟩ := hl
  obtain ⟨q, hq⟩ : ∃ q, k + 32 = q := ⟨_, rfl⟩
  obtain ⟨n, hn2⟩ : ∃ n, l.length = n := ⟨_, rfl⟩
  have hTb : AbP T 1700 := by
    have hx : ∀ (r : List Int) (s : Int) (u : Nat), (∀ c ∈ r, AbP c 1600) → AbP s (1600 + u) → AbP (ttl r s) (1600 + (u + r.length)) := fun r => by
      induction r with
      | nil => intro s u _ h; exact h
      | cons c r ih =>
        intro s u h1 h2
        rw [ttl]
        have := ih (s + c) (u + 1) (fun x hx => h1 x (List.mem_cons_of_mem _ hx)) (h2.add ((h1 c List.mem_cons_self).up (by omega)))
        rw [List.length_cons, show u + (r.length + 1) = u + 1 + r.length by omega]
        exact this
    have := hx cs 0 0 hb (AbP.zero _)
    rw [hsum] at this
    exact this.up (by omega)
  obtain ⟨lb1, lb2⟩ := loC_abs hTb (by omega)
  have mb : AbP 262144 1700 := AbP.up (j := 18) (by unfold AbP; decide) (by omega)
  have HP0 := fun W => cperm_any (k : Int) W
  have hkb : okW (k : Int) = true := by
    unfold okW
    rw [decide_eq_true (show (0 : Int) ≤ (k : Int) by omega), decide_eq_true (show (k : Int) ≤ 4224 by omega)]
    rfl
  rw [hkb] at HP0
  have hTT := fun W (hW : Below w.heap.size w W) => hT.mono hW
  have g1 := fun W (hW : Below w.heap.size w W) => dof_any 1 W (by omega) (by omega) (hTT W hW)
  obtain ⟨u1, u2, u3⟩ := nf_up (k := 18) (by omega)
  obtain ⟨_, y2, y3, y4, _, _⟩ := nf (t := 1) (v := 0) (by unfold AbP; decide) (by omega)
  have g2 := fun x W h (hW : Below w.heap.size w W) => dshift_any (mkM 1 0) (mkE 1 0) 18 x W h (by omega) (by omega) (by omega) (hTT W hW)
  rw [show ((18 : Nat) : Int) = 18 from rfl] at u1 u2 u3
  rw [show (2 : Int) ^ 18 = 262144 from by decide] at u2 u3
  rw [u1, u2, u3] at g2
  obtain ⟨_, t2, t3, t4, _, _⟩ := nf hTb (by omega)
  obtain ⟨_, v2, v3, v4, _, _⟩ := nf mb (by omega)
  obtain ⟨a1, a2, a3⟩ := nf_sub hTb mb (by omega)
  obtain ⟨b1, b2, b3⟩ := nf_add hTb mb (by omega)
  have g3 := fun x y W h j (hW : Below w.heap.size w W) => dsub_any (mkM T 0) (mkE T 0) (mkM 262144 0) (mkE 262144 0) x y W h j (by omega) (by omega) (by omega) (by omega) (hTT W hW)
  rw [a1, a2, a3] at g3
  have g4 := fun x y W h j (hW : Below w.heap.size w W) => dadd_any (mkM T 0) (mkE T 0) (mkM 262144 0) (mkE 262144 0) x y W h j (by omega) (by omega) (by omega) (by omega) (hTT W hW)
  rw [b1, b2, b3] at g4
  have lob : AbP (T - 262144) 1701 := by rw [Int.sub_eq_add_neg]; exact hTb.add mb.neg
  have hib : AbP (T + 262144) 1701 := hTb.add mb
  obtain ⟨d1, d2, d3, d4, d5, d6⟩ := nf_down (k := q) lob (by omega) (by omega)
  obtain ⟨e1, e2, e3, e4, e5, e6⟩ := nf_down (k := q) hib (by omega) (by omega)
  obtain ⟨_, i2, i3, i4, _, _⟩ := nf lob (by omega)
  obtain ⟨_, j2, j3, j4, _, _⟩ := nf hib (by omega)
  have g5 := fun x W h (hW : Below w.heap.size w W) => dshift_any (mkM (T - 262144) 0) (mkE (T - 262144) 0) (-(q : Int)) x W h (by omega) (by omega) (by omega) (hTT W hW)
  have g6 := fun x W h (hW : Below w.heap.size w W) => dshift_any (mkM (T + 262144) 0) (mkE (T + 262144) 0) (-(q : Int)) x W h (by omega) (by omega) (by omega) (hTT W hW)
  rw [d1] at g5
  rw [e1] at g6
  rw [← hq] at d3 e3
  have lo1 := lo_out T k d3
  have hi1 := hi_out T k e3
  rw [hq] at lo1 hi1
  have z1 := (lb1).zl
  have z2 := (lb2).zl
  have hpk : permB (k : Int) = true := by
    unfold permB
    rw [decide_eq_true (show (-2048 : Int) ≤ (k : Int) by omega), decide_eq_true (show (k : Int) ≤ 8192 by omega)]
    rfl
  have g7 := fun x W h (hW : Below w.heap.size w W) => i10out_yes (mkM (mkM (T - 262144) 0) (mkE (T - 262144) 0 + -(q : Int))) (mkE (mkM (T - 262144) 0) (mkE (T - 262144) 0 + -(q : Int))) (mkM (mkM (T + 262144) 0) (mkE (T + 262144) 0 + -(q : Int))) (mkE (mkM (T + 262144) 0) (mkE (T + 262144) 0 + -(q : Int))) (k : Int) x W h (by omega) (by omega) ⟨d5, d6⟩ ⟨e5, e6⟩ (by omega) (by omega) hpk (by rw [lo1]; exact mk_fits9 (by omega) (by omega) (by omega)) (by rw [hi1]; exact mk_fits9 (by omega) (by omega) (by omega)) (hTT W hW)
  rw [lo1, hi1] at g7
  clear lo1 hi1 d1 d2 d3 d4 d5 d6 e1 e2 e3 e4 e5 e6 u1 u2 u3 y2 y3 y4 t2 t3 t4 v2 v3 v4 a1 a2 a3 b1 b2 b3 i2 i3 i4 j2 j3 j4 lob hib lb1 lb2 z1 z2 hkb
  generalize mkM (loC T) (-(k : Int)) = Ma at *
  generalize mkE (loC T) (-(k : Int)) = Ea at *
  generalize mkM (hiC T) (-(k : Int)) = Na at *
  generalize mkE (hiC T) (-(k : Int)) = Fa at *
  generalize mkM (mkM (T - 262144) 0) (mkE (T - 262144) 0 + -(q : Int)) = Mb at *
  generalize mkE (mkM (T - 262144) 0) (mkE (T - 262144) 0 + -(q : Int)) = Eb at *
  generalize mkM (mkM (T + 262144) 0) (mkE (T + 262144) 0 + -(q : Int)) = Nb at *
  generalize mkE (mkM (T + 262144) 0) (mkE (T + 262144) 0 + -(q : Int)) = Fb at *
  generalize mkM (T - 262144) 0 = Mc at *
  generalize mkE (T - 262144) 0 = Ec at *
  generalize mkM (T + 262144) 0 = Nc at *
  generalize mkE (T + 262144) 0 = Fc at *
  generalize mkM 262144 0 = Mm at *
  generalize mkE 262144 0 = Em at *
  generalize mkM 1 0 = M1 at *
  generalize mkE 1 0 = E1 at *
  rw [hq] at hf
  rw [hn2] at hlen hn ⊢
  have w1 : IntKind.i64.wrap ((k : Int) + 32) = (q : Int) := by rw [IntKind.wrap_i64]; omega
  have w2 : IntKind.i64.wrap (-(q : Int)) = -(q : Int) := by rw [IntKind.wrap_i64]; omega
  have HRW := Lib.hid hrow
  have HB := Lib.hid hb
  have HN := Lib.hid (And.intro hn2 hlen)
  have HT := Lib.hid hTT
  have HF := Lib.hid hf
  have HP := Lib.hid HP0
  have HS := Lib.hid (show SmI cs 1600 0 0 T from ⟨AbP.zero _, hsum⟩)
  have G1 := Lib.hid g1
  have G2 := Lib.hid g2
  have G3 := Lib.hid g3
  have G4 := Lib.hid g4
  have G5 := Lib.hid g5
  have G6 := Lib.hid g6
  have G7 := Lib.hid g7
  clear g1 g2 g3 g4 g5 g6 g7 hf hT hTT hb hsum HP0 hrow hpk hTb mb hq hn2 hlen
  go_enter Tryz.func98, Tryz.ntmps98
  have L := ((Lq.mk0 w).varI (w.heap.size) (by simp) false none 0 0 0 false none 0 0 0)
  (try go_wp2_with fail)
  refine (HP.out _).mono ?_
  rintro e9 w' ⟨rfl, rfl⟩
  replace L := L.varD (w.heap.size + 1) (by simp) false none 0 0 0
  have c00 := L.b0.c30
  have f00 := L.b0.fr 0
  have c01 := L.b0.c31
  have f01 := L.b0.fr 1
  have c02 := L.b0.c32
  have f02 := L.b0.fr 2
  (try go_wp2_with fail)
  clear c00 f00 c01 f01 c02 f02
  go_loopw [25] (fun i wr => ∃ (t : Nat) (s N K : Int) (A2 : Option Addr) (c2 : Nat), i = .int .i64 (t : Int) ∧ t ≤ n ∧ Lq w wr [(.slice A2 (zl N) c2, N.natAbs)] [] [] [(w.heap.size + 1, 26, #[.bool (ng N), .slice A2 (zl N) c2, .int .i64 K]), (w.heap.size, 28, #[.bool false, .slice none 0 0, .int .i64 0, .bool false, .slice none 0 0, .int .i64 0])] ∧ Hid (SmI cs 1600 t s T ∧ mkM s 0 = N ∧ mkE s 0 = K)) (fun i _ => n - (intOf i).toNat)
  case atStart =>
    have zz : zl 0 = 0 := len_zero
    have LN := L.n (v := .slice none 0 0) (x := 0) (IsN.zero _)
    refine ⟨0, 0, 0, 0, none, 0, by go_num, by omega, ?_, Lib.hid ⟨HS.out, nf00⟩⟩
    rw [zz]
    exact LN.subs (by simp) (by simp [ng])
  case round =>
    clear L HS
    obtain ⟨t, s, N, K, A2, c2, rfl, ht, L, HS⟩ := hrel
    rcases Nat.eq_or_lt_of_le ht with rfl | ht3
    · obtain ⟨hI, hN, hK⟩ := HS.out
      rw [show t = cs.length from HN.out.2.symm] at hI
      obtain rfl := hI.last
      have G3' := G3.out
      have G4' := G4.out
      rw [hN, hK] at G3' G4'
      have G8 := Lib.hid G3'
      have G9 := Lib.hid G4'
      clear G3' G4' hI hN hK HS G3 G4 HB HF HRW
      have hl1 := L.b0.lt
      have c00 := L.b0.c30
      have c01 := L.b0.c31
      have c02 := L.b0.c32
      (try go_wp2_with fail)
      refine (G1.out _ L.below).mono ?_
      rintro e w41 ⟨v1, rfl, id, be⟩
      clear c00 c01 c02
      replace L := L.step be
      clear be
      (try go_wp2_with fail)
      refine (G2.out _ _ id L.below).mono ?_
      rintro e w42 ⟨v2, rfl, iz, be⟩
      obtain ⟨A3, c3, rfl, _, in9⟩ := iz.form
      replace L := (L.step be).n in9
      clear be iz in9 id
      have hl3 := L.b0.lt
      replace L := L.varD w42.heap.size rfl (ng Mm) A3 (zl Mm) c3 Em
      have c00 := L.b0.c30
      have c01 := L.b0.c31
      have c02 := L.b0.c32
      have c10 := L.tl.b0.c30
      have c11 := L.tl.b0.c31
      have c12 := L.tl.b0.c32
      go_wp2_with fail
      clear c00 c01 c02 c10 c11 c12
      obtain ⟨gm, hgm⟩ : ∃ g9, w42.heap.size = g9 := ⟨_, rfl⟩
      rw [hgm] at L hl3 ⊢
      clear hgm
      refine (G8.out _ _ _ (isD_n (m := N) (e := K) (s := .slice A2 (zl N) c2) (L.getN (by simp))) (isD_n (m := Mm) (e := Em) (s := .slice A3 (zl Mm) c3) (L.getN (by simp))) L.below).mono ?_
      rintro e w43 ⟨v2, rfl, iz, be⟩
      obtain ⟨A4, c4, rfl, _, in9⟩ := iz.form
      replace L := (L.step be).n in9
      clear be iz in9
      have hl4 := L.b0.lt
      replace L := L.varD w43.heap.size rfl (ng Mc) A4 (zl Mc) c4 Ec
      have c00 := L.b0.c30
      have c01 := L.b0.c31
      have c02 := L.b0.c32
      have c10 := L.tl.b0.c30
      have c11 := L.tl.b0.c31
      have c12 := L.tl.b0.c32
      have c20 := L.tl.tl.b0.c30
      have c21 := L.tl.tl.b0.c31
      have c22 := L.tl.tl.b0.c32
      go_wp2_with fail
      clear c00 c01 c02 c10 c11 c12 c20 c21 c22
      obtain ⟨gl, hgl⟩ : ∃ g9, w43.heap.size = g9 := ⟨_, rfl⟩
      rw [hgl] at L hl4 ⊢
      clear hgl
      refine (G9.out _ _ _ (isD_n (m := N) (e := K) (s := .slice A2 (zl N) c2) (L.getN (by simp))) (isD_n (m := Mm) (e := Em) (s := .slice A3 (zl Mm) c3) (L.getN (by simp))) L.below).mono ?_
      rintro e w44 ⟨v2, rfl, iz, be⟩
      obtain ⟨A5, c5, rfl, _, in9⟩ := iz.form
      replace L := (L.step be).n in9
      clear be iz in9
      have hl5 := L.b0.lt
      replace L := L.varD w44.heap.size rfl (ng Nc) A5 (zl Nc) c5 Fc
      have c00 := L.b0.c30
      have c01 := L.b0.c31
      have c02 := L.b0.c32
      have c10 := L.tl.b0.c30
      have c11 := L.tl.b0.c31
      have c12 := L.tl.b0.c32
      go_wp2_with fail
      clear c00 c01 c02 c10 c11 c12
      obtain ⟨gh, hgh⟩ : ∃ g9, w44.heap.size = g9 := ⟨_, rfl⟩
      rw [hgh] at L hl5 ⊢
      clear hgh
      refine (G5.out _ _ (isD_n (m := Mc) (e := Ec) (s := .slice A4 (zl Mc) c4) (L.getN (by simp))) L.below).mono ?_
      rintro e w45 ⟨v2, rfl, iz, be⟩
      obtain ⟨A6, c6, rfl, _, in9⟩ := iz.form
      replace L := (L.step be).n in9
      clear be iz in9
      have L4 := L.subs (ns' := [(.slice A6 (zl Mb) c6, Mb.natAbs), (.slice A5 (zl Nc) c5, Nc.natAbs)]) (bs' := [(gl, 26, #[.bool (ng Mc), .slice A4 (zl Mc) c4, .int .i64 Ec]), (gh, 26, #[.bool (ng Nc), .slice A5 (zl Nc) c5, .int .i64 Fc]), (w.heap.size, 28, #[.bool false, .slice none 0 0, .int .i64 0, .bool false, .slice none 0 0, .int .i64 0])]) (by simp) (by simp)
      clear L
      have L := L4
      clear L4
      have n1 : gl ≠ gh := by omega
      have n2 : w.heap.size ≠ gh := by omega
      have n3 : w.heap.size ≠ gl := by omega
      have c00 := L.b0.c30
      have f00 := L.b0.fr 0
      have c01 := L.b0.c31
      have f01 := L.b0.fr 1
      have c02 := L.b0.c32
      have f02 := L.b0.fr 2
      have c10 := L.tl.b0.c30
      have c11 := L.tl.b0.c31
      have c12 := L.tl.b0.c32
      have P := L.putD (by omega) (by simp [n1, n2, n3, Ne.symm n1, Ne.symm n2, Ne.symm n3]) (ng Mb) A6 (zl Mb) c6 Eb
      have p0 := P.tl.b0.c30
      have p1 := P.tl.b0.c31
      have p2 := P.tl.b0.c32
      unfold put3 at p0 p1 p2 P
      go_wp2_with fail
      replace L := P
      clear P p0 p1 p2
      clear c00 f00 c01 f01 c02 f02 c10 c11 c12
      refine (G6.out _ _ (isD_n (m := Nc) (e := Fc) (s := .slice A5 (zl Nc) c5) (L.getN (by simp))) L.below).mono ?_
      rintro e w46 ⟨v2, rfl, iz, be⟩
      obtain ⟨A7, c7, rfl, _, in9⟩ := iz.form
      replace L := (L.step be).n in9
      clear be iz in9
      replace L := L.swap
      have c00 := L.b0.c30
      have f00 := L.b0.fr 0
      have c01 := L.b0.c31
      have f01 := L.b0.fr 1
      have c02 := L.b0.c32
      have f02 := L.b0.fr 2
      have c10 := L.tl.b0.c30
      have c11 := L.tl.b0.c31
      have c12 := L.tl.b0.c32
      have P := L.putD (by omega) (by simp [n1, n2, n3, Ne.symm n1, Ne.symm n2, Ne.symm n3]) (ng Nb) A7 (zl Nb) c7 Fb
      have p0 := P.tl.b0.c30
      have p1 := P.tl.b0.c31
      have p2 := P.tl.b0.c32
      have p3 := P.b0.c30
      have p4 := P.b0.c31
      have p5 := P.b0.c32
      unfold put3 at p0 p1 p2 p3 p4 p5 P
      go_wp2_with fail
      replace L := P
      clear P p0 p1 p2 p3 p4 p5
      clear c00 f00 c01 f01 c02 f02 c10 c11 c12
      refine (G7.out _ _ (isI_n (m := Mb) (e := Eb) (n := Nb) (f := Fb) (s := .slice A6 (zl Mb) c6) (t := .slice A7 (zl Nb) c7) (L.getN (by simp)) (L.getN (by simp))) L.below).mono ?_
      rintro e w47 ⟨v2, rfl, ii, be⟩
      obtain ⟨A8, c8, B8, d8, rfl, ia, ib⟩ := ii.form
      replace L := (((L.step be).n ib).n ia).pull2
      clear be ii ia ib
      have c00 := L.b0.c60
      have f00 := L.b0.fr 0
      have c01 := L.b0.c61
      have f01 := L.b0.fr 1
      have c02 := L.b0.c62
      have f02 := L.b0.fr 2
      have c03 := L.b0.c63
      have f03 := L.b0.fr 3
      have c04 := L.b0.c64
      have f04 := L.b0.fr 4
      have c05 := L.b0.c65
      have f05 := L.b0.fr 5
      go_wp2_with fail
      have LP := L.putI (by omega) (by simp [n2, n3, Ne.symm n2, Ne.symm n3]) (ng Ma) A8 (zl Ma) c8 Ea (ng Na) B8 (zl Na) d8 Fa
      have k0 := LP.b0.c60
      have k1 := LP.b0.c61
      have k2 := LP.b0.c62
      have k3 := LP.b0.c63
      have k4 := LP.b0.c64
      have k5 := LP.b0.c65
      unfold put6 at k0 k1 k2 k3 k4 k5
      exact bodyPost_ret (v := .tuple #[.agg #[.bool (ng Ma), .slice A8 (zl Ma) c8, .int .i64 Ea, .bool (ng Na), .slice B8 (zl Na) d8, .int .i64 Fa], .int .i64 0]) (by simp [results, Tryz.results98, go_sem, k0, k1, k2, k3, k4, k5]) rfl ⟨_, rfl, isI_n (LP.getN (by simp)) (LP.getN (by simp)), LP.below⟩
    · obtain ⟨x, hx⟩ : ∃ x, l[t]? = some x := ⟨_, List.getElem?_eq_getElem (by rw [HN.out.1]; exact ht3)⟩
      obtain ⟨cc, hcc⟩ : ∃ x, cs[t]? = some x := ⟨_, List.getElem?_eq_getElem (by rw [HN.out.2]; exact ht3)⟩
      obtain ⟨e0, e1, e2⟩ := HRW.out t x hx
      replace e0 := (L.below.cell (p := ⟨g, 3 * t, none⟩) hg).trans e0
      replace e1 := (L.below.cell (p := ⟨g, 3 * t + 1, none⟩) hg).trans e1
      replace e2 := (L.below.cell (p := ⟨g, 3 * t + 2, none⟩) hg).trans e2
      rw [Nat.mul_comm 3 t] at e0 e1 e2
      obtain ⟨hI, hN, hK⟩ := HS.out
      have hcb := HB.out _ (List.mem_of_getElem? hcc)
      have hI2 := hI.step hcc hcb
      have o1 := fun W hW => HF.out t x cc W hx hcc hW
      obtain ⟨a1, a2, a3⟩ := nf_add hI.1 (hcb.up (show 1600 ≤ 1600 + t by omega)) (by omega)
      obtain ⟨_, b2, b3, b4, _, _⟩ := nf hI.1 (by omega)
      obtain ⟨_, d2, d3, d4, _, _⟩ := nf hcb (by omega)
      have o2 := fun x y W h j (hW : Below w.heap.size w W) => dadd_any (mkM s 0) (mkE s 0) (mkM cc 0) (mkE cc 0) x y W h j (by omega) (by omega) (by omega) (by omega) (HT.out W hW)
      rw [a1, a2, a3] at o2
      clear a1 a2 a3 b2 b3 b4 d2 d3 d4 hcb hI hcc hx
      obtain ⟨s2, hs2⟩ : ∃ z, s + cc = z := ⟨_, rfl⟩
      rw [hs2] at o2 hI2
      rw [hN, hK] at o2
      obtain ⟨N2, hN2⟩ : ∃ z, mkM s2 0 = z := ⟨_, rfl⟩
      obtain ⟨K2, hK2⟩ : ∃ z, mkE s2 0 = z := ⟨_, rfl⟩
      rw [hN2, hK2] at o2
      generalize mkM cc 0 = Mx at *
      generalize mkE cc 0 = Ex at *
      have HR := Lib.hid (And.intro hI2 (And.intro hN2 hK2))
      have O1 := Lib.hid o1
      have O2 := Lib.hid o2
      obtain ⟨xa, xF, xn⟩ := x
      dsimp only at e0 e1 e2 O1
      have hlt : (t : Int) < (n : Int) := by omega
      have ht0 : (0 : Int) ≤ (t : Int) := by omega
      have w3 : IntKind.i64.wrap ((t : Int) + 1) = (t : Int) + 1 := by rw [IntKind.wrap_i64]; omega
      have hl1 := L.b0.lt
      have hsf := fun (a : Addr) (W : World) => run_store Tryz.prog W a (.func (.func xF) #[] #[]) .plain rfl
      clear o1 o2 hI2 hN2 hK2 hN hK hs2 HS
      replace L := L.varP wr.heap.size rfl xa xF xn
      have cel00 := L.b0.c30
      have cel01 := L.b0.c31
      have cel02 := L.b0.c32
      have cel10 := L.tl.b0.c30
      have cel11 := L.tl.b0.c31
      have cel12 := L.tl.b0.c32
      go_wp2_with fail
      clear cel00 cel01 cel02 cel10 cel11 cel12
      obtain ⟨gx, hgx⟩ : ∃ gx, wr.heap.size = gx := ⟨_, rfl⟩
      rw [hgx] at L hl1 ⊢
      clear hgx e0 e1 e2
      have n1 : w.heap.size + 1 ≠ gx := by omega
      have cel00 := L.b0.c30
      have cel01 := L.b0.c31
      have cel02 := L.b0.c32
      have cel10 := L.tl.b0.c30
      have cel11 := L.tl.b0.c31
      have cel12 := L.tl.b0.c32
      (try go_wp2_with fail)
      replace L := L.drew.swap
      clear cel00 cel01 cel02 cel10 cel11 cel12
      have cel00 := L.b0.c30
      have f00 := L.b0.fr 0
      have cel01 := L.b0.c31
      have f01 := L.b0.fr 1
      have cel02 := L.b0.c32
      have f02 := L.b0.fr 2
      have cel10 := L.tl.b0.c30
      have cel11 := L.tl.b0.c31
      have cel12 := L.tl.b0.c32
      go_region_with (first | (go_at_call 154; (with_reducible refine (O1.out _ ?_ ).mono ?_); (· exact L.below); rintro e9 wh ⟨vh, rfl, id, be⟩; obtain ⟨A4, c4, rfl, _, in9⟩ := id.form; replace L := (L.step be).n in9; clear be id in9; (try (have xx00 := L.b0.c30; have yy00 := L.b0.fr 0; have xx01 := L.b0.c31; have yy01 := L.b0.fr 1; have xx02 := L.b0.c32; have yy02 := L.b0.fr 2)); (try (have xx10 := L.tl.b0.c30; have xx11 := L.tl.b0.c31; have xx12 := L.tl.b0.c32))) | (go_at_call 61; (with_reducible refine (O2.out _ _ _ ?_ ?_ ?_ ).mono ?_); (· (refine isD_n (L.getN ?_); (repeat (first | (with_reducible exact List.mem_cons_self) | apply List.mem_cons_of_mem)))); (· (refine isD_n (L.getN ?_); (repeat (first | (with_reducible exact List.mem_cons_self) | apply List.mem_cons_of_mem)))); (· exact L.below); rintro e9 wh ⟨vh, rfl, id, be⟩; obtain ⟨A5, c5, rfl, _, in9⟩ := id.form; replace L := (L.step be).n in9; clear be id in9; (try (have xx00 := L.b0.c30; have yy00 := L.b0.fr 0; have xx01 := L.b0.c31; have yy01 := L.b0.fr 1; have xx02 := L.b0.c32; have yy02 := L.b0.fr 2)); (try (have xx10 := L.tl.b0.c30; have xx11 := L.tl.b0.c31; have xx12 := L.tl.b0.c32))))
      all_goals
        clear cel00 f00 cel01 f01 cel02 f02 cel10 cel11 cel12
        have P := L.putD (by omega) (by simp [n1, Ne.symm n1]) (ng N2) A5 (zl N2) c5 K2
        unfold put3 at P
        go_wp2_with fail
        replace L := P
        clear P
        go_roundw
        case rel => exact ⟨t + 1, s2, N2, K2, A5, c5, by go_num, by omega, L.subs (by simp) (by simp), HR⟩
        case measure => simp [intOf]; omega

def inM (c : Int) (k : Nat) : Option Int → Bool
  | none => false
  | some T => decide (loC T * 2 ^ (500 - k) + 1048576 ≤ c) && decide (c + 1048576 ≤ hiC T * 2 ^ (500 - k))
theorem exm_all : (List.range 200).all (fun k => inM cEx k (exT (k + 32))) = true := by decide +kernel
theorem lnm_all : (List.range 200).all (fun k => inM cLn k (lnT (k + 32))) = true := by decide +kernel
/-- The number e itself. -/
theorem e_up : UpE 1 (dq (cEx + 1048576) (-500)) := (exp_up 104 (x := 1) (by decide +kernel)).up (by decide +kernel)
theorem e_lo : LoE (dq (cEx - 1048576) (-500)) 1 := (exp_lo 104 1).down (by decide +kernel)
/-- The logarithm of 2. -/
theorem ln_up : UpE (dq (cLn - 1048576) (-500)) 2 := (exp_up 104 (by decide +kernel)).up (by decide +kernel)
theorem ln_lo : LoE 2 (dq (cLn + 1048576) (-500)) := (exp_lo 104 _).down (by decide +kernel)

/-- A constant's interval, in units of 2^-k, around the constant with a margin. -/
structure Cn (T c : Int) (k : Nat) : Prop where
  al : AbP (loC T) (k + 3)
  ah : AbP (hiC T) (k + 3)
  lo : dq (loC T) (-(k : Int)) ≤ dq (c - 1048576) (-500)
  hi : dq (c + 1048576) (-500) ≤ dq (hiC T) (-(k : Int))
  wd : hiC T ≤ loC T + 2
theorem dq_up9 (C : Int) {k F : Nat} (h : k ≤ F) : dq C (-(k : Int)) = dq (C * 2 ^ (F - k)) (-(F : Int)) := by
  refine dq_eq (F := -(F : Int)) ?_ (by omega) (by omega)
  rw [show (-(k : Int) - -(F : Int)).toNat = F - k by omega, show (-(F : Int) - -(F : Int)).toNat = 0 by omega]
  simp
theorem cn_of {c : Int} {k : Nat} {o : Option Int} (hk : k < 200) (hc : 1048576 ≤ c ∧ c < 2 ^ 502) (h : inM c k o = true) : ∃ T, o = some T ∧ Cn T c k := by
  match o with
  | none => cases h
  | some T =>
    unfold inM at h
    rw [Bool.and_eq_true] at h
    have h1 := of_decide_eq_true h.1
    have h2 := of_decide_eq_true h.2
    have hw : hiC T ≤ loC T + 2 := by
      unfold hiC loC
      rw [cdv_le (by omega)]
      have := Int.lt_ediv_add_one_mul_self (T - 262144) (show (0 : Int) < 4294967296 by omega)
      omega
    have hp := pow2_pos (500 - k)
    have e5 : (2 : Int) ^ 502 = 2 ^ (k + 2) * 2 ^ (500 - k) := by rw [← Int.pow_add]; congr 1; omega
    have b1 : loC T < 2 ^ (k + 2) := by
      refine Int.lt_of_mul_lt_mul_right (a := 2 ^ (500 - k)) ?_ (by omega)
      rw [← e5]
      omega
    have b2 : 0 ≤ hiC T := by
      refine Int.not_lt.1 fun h9 => ?_
      have := Int.mul_neg_of_neg_of_pos h9 hp
      omega
    have b3 : -2 ≤ loC T := by omega
    have e6 : (2 : Int) ^ (k + 3) = 2 ^ (k + 2) * 2 := by rw [← Int.pow_succ]
    have b4 : (4 : Int) ≤ 2 ^ (k + 2) := by
      have := pow2_pos k
      rw [Int.pow_succ, Int.pow_succ]
      omega
    have eP : (((2 : Nat) ^ (k + 3) : Nat) : Int) = 2 ^ (k + 3) := by simp
    refine ⟨T, rfl, ?_, ?_, ?_, ?_, hw⟩
    · unfold AbP; omega
    · unfold AbP; omega
    · rw [dq_up9 _ (show k ≤ 500 by omega)]
      exact (dq_le_iff _ _ _).2 (by omega)
    · rw [dq_up9 (hiC T) (show k ≤ 500 by omega)]
      exact (dq_le_iff _ _ _).2 h2
theorem cn_ex {k : Nat} (hk : k < 200) : ∃ T, exT (k + 32) = some T ∧ Cn T cEx k :=
  cn_of hk ⟨by decide +kernel, by decide +kernel⟩ (List.all_eq_true.1 exm_all k (List.mem_range.2 hk))
theorem cn_ln {k : Nat} (hk : k < 200) : ∃ T, lnT (k + 32) = some T ∧ Cn T cLn k :=
  cn_of hk ⟨by decide +kernel, by decide +kernel⟩ (List.all_eq_true.1 lnm_all k (List.mem_range.2 hk))
/-- The number itself lies in the interval, too. -/
theorem Cn.mid {T c : Int} {k : Nat} (h : Cn T c k) : dq (loC T) (-(k : Int)) ≤ dq c (-500) ∧ dq c (-500) ≤ dq (hiC T) (-(k : Int)) :=
  ⟨Rat.le_trans h.lo ((dq_le_iff _ _ _).2 (by omega)), Rat.le_trans ((dq_le_iff _ _ _).2 (by omega)) h.hi⟩

theorem plainP3 (a0 : Int) (F0 : Nat) (n0 : Int) (a1 : Int) (F1 : Nat) (n1 : Int) (a2 : Int) (F2 : Nat) (n2 : Int) : Plain #[.int .i64 a0, .func (.func F0) #[] #[], .int .i64 n0, .int .i64 a1, .func (.func F1) #[] #[], .int .i64 n1, .int .i64 a2, .func (.func F2) #[] #[], .int .i64 n2] := fun j x => by
  match j with
  | 0 => simp
  | 1 => simp
  | 2 => simp
  | 3 => simp
  | 4 => simp
  | 5 => simp
  | 6 => simp
  | 7 => simp
  | 8 => simp
  | j + 9 => simp
theorem rowP_1 {w : World} {g : Nat} {a0 : Int} {F0 : Nat} {n0 : Int} (hv : Var w g 115 #[.int .i64 a0, .func (.func F0) #[] #[], .int .i64 n0]) : RowP w (.slice (some ⟨g, 0, none⟩) 1 1) [(a0, F0, n0)] := by
  refine ⟨g, 1, rfl, hv.lt, fun j x hx => ?_⟩
  match j with
  | 0 =>
    obtain rfl : (a0, F0, n0) = x := by simpa using hx
    exact ⟨hv.cell 0, hv.cell 1, hv.cell 2⟩
  | j + 1 => simp at hx
theorem rowP_3 {w : World} {g : Nat} {a0 : Int} {F0 : Nat} {n0 : Int} {a1 : Int} {F1 : Nat} {n1 : Int} {a2 : Int} {F2 : Nat} {n2 : Int} (hv : Var w g 115 #[.int .i64 a0, .func (.func F0) #[] #[], .int .i64 n0, .int .i64 a1, .func (.func F1) #[] #[], .int .i64 n1, .int .i64 a2, .func (.func F2) #[] #[], .int .i64 n2]) : RowP w (.slice (some ⟨g, 0, none⟩) 3 3) [(a0, F0, n0), (a1, F1, n1), (a2, F2, n2)] := by
  refine ⟨g, 3, rfl, hv.lt, fun j x hx => ?_⟩
  match j with
  | 0 =>
    obtain rfl : (a0, F0, n0) = x := by simpa using hx
    exact ⟨hv.cell 0, hv.cell 1, hv.cell 2⟩
  | 1 =>
    obtain rfl : (a1, F1, n1) = x := by simpa using hx
    exact ⟨hv.cell 3, hv.cell 4, hv.cell 5⟩
  | 2 =>
    obtain rfl : (a2, F2, n2) = x := by simpa using hx
    exact ⟨hv.cell 6, hv.cell 7, hv.cell 8⟩
  | j + 3 => simp at hx
theorem pt1_some {c : Int} {p : Nat → Int × Int} {v : Nat} {T : Int} (h : pt1 c p v = some T) : ∃ S, smP p 600 0 (2 ^ v) 0 = some S ∧ T = S * c := by
  unfold pt1 at h
  split at h
  · cases h
  · next a ha => exact ⟨a, ha, (Option.some.inj h).symm⟩
theorem add2_some {x y : Option Int} {T : Int} (h : add2 x y = some T) : ∃ a b, x = some a ∧ y = some b ∧ T = a + b := by
  match x, y with
  | some a, some b => exact ⟨a, b, rfl, rfl, (Option.some.inj h).symm⟩
  | none, _ => cases h
  | some _, none => cases h
theorem pt_abs {c S : Int} {p : Nat → Int × Int} {v : Nat} (hg : GdP p) (hS : smP p 600 0 (2 ^ v) 0 = some S) (hc : AbP c 10) (hv : v ≤ 950) : AbP (S * c) 1600 := ((smP_abs hg 600 0 _ _ _ (sp_first hS)).mul hc).up (by omega)

set_option maxHeartbeats 4000000 in
theorem cex_yes (k : Nat) (T : Int) (w : World) (hk : k ≤ 900) (hT : Tab w) (hS : exT (k + 32) = some T) :
    Calls Tryz.prog 50 #[.int .i64 (k : Int)] w (RetIE w (mkM (loC T) (-(k : Int))) (mkE (loC T) (-(k : Int))) (mkM (hiC T) (-(k : Int))) (mkE (hiC T) (-(k : Int))) 0) := by
  unfold exT at hS
  obtain ⟨S0, hS0, r0⟩ := pt1_some hS
  subst r0
  have hen0 : ∀ args w, (callFunc 99 args).run Tryz.prog w = .ok (.enter 99 args) w := enters_of Tryz.func99 (by kernel_rfl) rfl
  have G0 : GdP (exP 1) := exP_good
  have a0 : AbP (1) 10 := by unfold AbP; decide
  have u0 := fun W (hW : Below w.heap.size w W) => csum_any 99 hen0 (exP 1) 1 (1) S0 (k + 32) W G0 hS0 a0 (by omega) (hT.mono hW) (fun j W hj => cexp_any j W hj)
  have b0 := pt_abs G0 hS0 a0 (by omega)
  have g1 := fun v W (hl : RowP W v [((1 : Int), 99, (1 : Int))]) (hW : Below w.heap.size w W) => cencl_yes k [((1 : Int), 99, (1 : Int))] [S0 * (1)] (S0 * (1)) v W hk hl rfl (by simp) (hT.mono hW) (fun c hc => by
    simp only [List.mem_cons, List.not_mem_nil, or_false] at hc
    subst hc <;> assumption) (by unfold ttl; unfold ttl; rw [Int.zero_add]) (fun j x c W2 hx hc hW2 => by
    have hW3 := hW.trans (hW2.mono hW.size)
    match j with
    | 0 =>
      obtain rfl : ((1 : Int), 99, (1 : Int)) = x := by simpa using hx
      obtain rfl : S0 * (1) = c := by simpa using hc
      exact u0 W2 hW3
    | j + 1 => simp at hx)
  generalize S0 * (1) = T at *
  clear hen0 G0 a0 u0 b0 hS0 hS
  generalize mkM (loC T) (-(k : Int)) = Ma at *
  generalize mkE (loC T) (-(k : Int)) = Ea at *
  generalize mkM (hiC T) (-(k : Int)) = Na at *
  generalize mkE (hiC T) (-(k : Int)) = Fa at *
  have H1 := Lib.hid g1
  clear g1
  go_enter Tryz.func50, Tryz.ntmps50
  have L := ((Lq.mk0 w).varI (w.heap.size) (by simp) false none 0 0 0 false none 0 0 0)
  replace L := L.var (w.heap.size + 1) (by simp) 115 #[.int .i64 (1), .func (.func 99) #[] #[], .int .i64 1] (plainP _ _ _ )
  have p0 := L.b0.cell 0
  have p1 := L.b0.cell 1
  have p2 := L.b0.cell 2
  (try go_wp2_with fail)
  clear p0 p1 p2
  refine (H1.out _ _ (rowP_1 L.b0) L.below).mono ?_
  rintro e w1 ⟨v2, rfl, ii, be⟩
  obtain ⟨A8, c8, B8, d8, rfl, ia, ib⟩ := ii.form
  replace L := (((L.step be).n ib).n ia).swap
  clear be ii ia ib
  have c00 := L.b0.c60
  have f00 := L.b0.fr 0
  have c01 := L.b0.c61
  have f01 := L.b0.fr 1
  have c02 := L.b0.c62
  have f02 := L.b0.fr 2
  have c03 := L.b0.c63
  have f03 := L.b0.fr 3
  have c04 := L.b0.c64
  have f04 := L.b0.fr 4
  have c05 := L.b0.c65
  have f05 := L.b0.fr 5
  go_wp2_with fail
  have LP := L.putI (by omega) (by first | (simp; done) | (simp; omega)) (ng Ma) A8 (zl Ma) c8 Ea (ng Na) B8 (zl Na) d8 Fa
  have k0 := LP.b0.c60
  have k1 := LP.b0.c61
  have k2 := LP.b0.c62
  have k3 := LP.b0.c63
  have k4 := LP.b0.c64
  have k5 := LP.b0.c65
  unfold put6 at k0 k1 k2 k3 k4 k5
  exact bodyPost_ret (v := .tuple #[.agg #[.bool (ng Ma), .slice A8 (zl Ma) c8, .int .i64 Ea, .bool (ng Na), .slice B8 (zl Na) d8, .int .i64 Fa], .int .i64 0]) (by simp [results, Tryz.results50, go_sem, k0, k1, k2, k3, k4, k5]) rfl ⟨_, rfl, isI_n (LP.getN (by simp)) (LP.getN (by simp)), LP.below⟩
set_option maxHeartbeats 4000000 in
theorem cln_yes (k : Nat) (T : Int) (w : World) (hk : k ≤ 900) (hT : Tab w) (hS : lnT (k + 32) = some T) :
    Calls Tryz.prog 51 #[.int .i64 (k : Int)] w (RetIE w (mkM (loC T) (-(k : Int))) (mkE (loC T) (-(k : Int))) (mkM (hiC T) (-(k : Int))) (mkE (hiC T) (-(k : Int))) 0) := by
  unfold lnT at hS
  obtain ⟨T9, T2, h9, h2, rfl⟩ := add2_some hS
  obtain ⟨T0, T1, h0, h1, rfl⟩ := add2_some h9
  obtain ⟨S0, hS0, r0⟩ := pt1_some h0
  obtain ⟨S1, hS1, r1⟩ := pt1_some h1
  obtain ⟨S2, hS2, r2⟩ := pt1_some h2
  subst r0 r1 r2
  have hen0 : ∀ args w, (callFunc 100 args).run Tryz.prog w = .ok (.enter 100 args) w := enters_of Tryz.func100 (by kernel_rfl) rfl
  have G0 : GdP (tnP 26 (-1)) := tnP_good (by simp)
  have a0 : AbP (18) 10 := by unfold AbP; decide
  have u0 := fun W (hW : Below w.heap.size w W) => csum_any 100 hen0 (tnP 26 (-1)) 26 (18) S0 (k + 32) W G0 hS0 a0 (by omega) (hT.mono hW) (fun j W hj => carea_any 26 j W (by omega) (by omega) hj)
  have b0 := pt_abs G0 hS0 a0 (by omega)
  have hen1 : ∀ args w, (callFunc 100 args).run Tryz.prog w = .ok (.enter 100 args) w := enters_of Tryz.func100 (by kernel_rfl) rfl
  have G1 : GdP (tnP 4801 (-1)) := tnP_good (by simp)
  have a1 : AbP (-2) 10 := by unfold AbP; decide
  have u1 := fun W (hW : Below w.heap.size w W) => csum_any 100 hen1 (tnP 4801 (-1)) 4801 (-2) S1 (k + 32) W G1 hS1 a1 (by omega) (hT.mono hW) (fun j W hj => carea_any 4801 j W (by omega) (by omega) hj)
  have b1 := pt_abs G1 hS1 a1 (by omega)
  have hen2 : ∀ args w, (callFunc 100 args).run Tryz.prog w = .ok (.enter 100 args) w := enters_of Tryz.func100 (by kernel_rfl) rfl
  have G2 : GdP (tnP 8749 (-1)) := tnP_good (by simp)
  have a2 : AbP (8) 10 := by unfold AbP; decide
  have u2 := fun W (hW : Below w.heap.size w W) => csum_any 100 hen2 (tnP 8749 (-1)) 8749 (8) S2 (k + 32) W G2 hS2 a2 (by omega) (hT.mono hW) (fun j W hj => carea_any 8749 j W (by omega) (by omega) hj)
  have b2 := pt_abs G2 hS2 a2 (by omega)
  have g1 := fun v W (hl : RowP W v [((18 : Int), 100, (26 : Int)), ((-2 : Int), 100, (4801 : Int)), ((8 : Int), 100, (8749 : Int))]) (hW : Below w.heap.size w W) => cencl_yes k [((18 : Int), 100, (26 : Int)), ((-2 : Int), 100, (4801 : Int)), ((8 : Int), 100, (8749 : Int))] [S0 * (18), S1 * (-2), S2 * (8)] (S0 * (18) + S1 * (-2) + S2 * (8)) v W hk hl rfl (by simp) (hT.mono hW) (fun c hc => by
    simp only [List.mem_cons, List.not_mem_nil, or_false] at hc
    rcases hc with rfl | rfl | rfl <;> assumption) (by unfold ttl; unfold ttl; unfold ttl; unfold ttl; rw [Int.zero_add]) (fun j x c W2 hx hc hW2 => by
    have hW3 := hW.trans (hW2.mono hW.size)
    match j with
    | 0 =>
      obtain rfl : ((18 : Int), 100, (26 : Int)) = x := by simpa using hx
      obtain rfl : S0 * (18) = c := by simpa using hc
      exact u0 W2 hW3
    | 1 =>
      obtain rfl : ((-2 : Int), 100, (4801 : Int)) = x := by simpa using hx
      obtain rfl : S1 * (-2) = c := by simpa using hc
      exact u1 W2 hW3
    | 2 =>
      obtain rfl : ((8 : Int), 100, (8749 : Int)) = x := by simpa using hx
      obtain rfl : S2 * (8) = c := by simpa using hc
      exact u2 W2 hW3
    | j + 3 => simp at hx)
  generalize S0 * (18) + S1 * (-2) + S2 * (8) = T at *
  clear hen0 G0 a0 u0 b0 hS0 hen1 G1 a1 u1 b1 hS1 hen2 G2 a2 u2 b2 hS2 hS h0 h1 h2 h9
  generalize mkM (loC T) (-(k : Int)) = Ma at *
  generalize mkE (loC T) (-(k : Int)) = Ea at *
  generalize mkM (hiC T) (-(k : Int)) = Na at *
  generalize mkE (hiC T) (-(k : Int)) = Fa at *
  have H1 := Lib.hid g1
  clear g1
  go_enter Tryz.func51, Tryz.ntmps51
  have L := ((Lq.mk0 w).varI (w.heap.size) (by simp) false none 0 0 0 false none 0 0 0)
  replace L := L.var (w.heap.size + 1) (by simp) 115 #[.int .i64 (18), .func (.func 100) #[] #[], .int .i64 26, .int .i64 (-2), .func (.func 100) #[] #[], .int .i64 4801, .int .i64 (8), .func (.func 100) #[] #[], .int .i64 8749] (plainP3 _ _ _ _ _ _ _ _ _ )
  have p0 := L.b0.cell 0
  have p1 := L.b0.cell 1
  have p2 := L.b0.cell 2
  have p3 := L.b0.cell 3
  have p4 := L.b0.cell 4
  have p5 := L.b0.cell 5
  have p6 := L.b0.cell 6
  have p7 := L.b0.cell 7
  have p8 := L.b0.cell 8
  (try go_wp2_with fail)
  clear p0 p1 p2 p3 p4 p5 p6 p7 p8
  refine (H1.out _ _ (rowP_3 L.b0) L.below).mono ?_
  rintro e w1 ⟨v2, rfl, ii, be⟩
  obtain ⟨A8, c8, B8, d8, rfl, ia, ib⟩ := ii.form
  replace L := (((L.step be).n ib).n ia).swap
  clear be ii ia ib
  have c00 := L.b0.c60
  have f00 := L.b0.fr 0
  have c01 := L.b0.c61
  have f01 := L.b0.fr 1
  have c02 := L.b0.c62
  have f02 := L.b0.fr 2
  have c03 := L.b0.c63
  have f03 := L.b0.fr 3
  have c04 := L.b0.c64
  have f04 := L.b0.fr 4
  have c05 := L.b0.c65
  have f05 := L.b0.fr 5
  go_wp2_with fail
  have LP := L.putI (by omega) (by first | (simp; done) | (simp; omega)) (ng Ma) A8 (zl Ma) c8 Ea (ng Na) B8 (zl Na) d8 Fa
  have k0 := LP.b0.c60
  have k1 := LP.b0.c61
  have k2 := LP.b0.c62
  have k3 := LP.b0.c63
  have k4 := LP.b0.c64
  have k5 := LP.b0.c65
  unfold put6 at k0 k1 k2 k3 k4 k5
  exact bodyPost_ret (v := .tuple #[.agg #[.bool (ng Ma), .slice A8 (zl Ma) c8, .int .i64 Ea, .bool (ng Na), .slice B8 (zl Na) d8, .int .i64 Fa], .int .i64 0]) (by simp [results, Tryz.results51, go_sem, k0, k1, k2, k3, k4, k5]) rfl ⟨_, rfl, isI_n (LP.getN (by simp)) (LP.getN (by simp)), LP.below⟩


end Go.Proofs.YtnnfldkllhdhjaaGreatDoor
